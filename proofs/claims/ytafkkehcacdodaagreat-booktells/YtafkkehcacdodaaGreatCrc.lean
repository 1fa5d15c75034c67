/- The contracts of the register's step and of Crc. -/
import Derived.Test.YtafkkehcacdodaaGreatCrcMath
import Derived.Test.YtafkkehcacdodaaGreatSum
import Derived.Laws.BitsAllLaws
set_option maxRecDepth 100000
namespace Go.Proofs.YtafkkehcacdodaaGreat
open Go.RowKit

theorem u32_xor_nat' (a b : Nat) (ha : a < 4294967296) (hb : b < 4294967296) : bits .xor .u32 (a : Int) (b : Int) = ((a ^^^ b : Nat) : Int) := by
  have hx : a ^^^ b < 2 ^ 32 := Nat.xor_lt_two_pow (by omega) (by omega)
  have h1 : (BitVec.ofInt 32 (a : Int)).toNat = a := by
    rw [BitVec.ofInt_natCast, BitVec.toNat_ofNat]; exact Nat.mod_eq_of_lt (by omega)
  have h2 : (BitVec.ofInt 32 (b : Int)).toNat = b := by
    rw [BitVec.ofInt_natCast, BitVec.toNat_ofNat]; exact Nat.mod_eq_of_lt (by omega)
  show IntKind.u32.wrap ((BitVec.ofInt 32 (a : Int) ^^^ BitVec.ofInt 32 (b : Int)).toNat : Int) = _
  rw [BitVec.toNat_xor, h1, h2, IntKind.wrap_u32]
  omega

theorem u32_and1 (a : Nat) (ha : a < 4294967296) : bits .and .u32 (a : Int) 1 = ((a % 2 : Nat) : Int) := by
  have := bits_mask .u32 32 (by decide) (fun n a b => by rw [IntKind.wrap_u32]; omega) 1 (by decide) (a : Int) (by omega) (by omega)
  simpa using this

theorem u32_xorP (a : Nat) (ha : a < 4294967296) : bits .xor .u32 ((a : Int) / 2) 3988292384 = ((a / 2 ^^^ 3988292384 : Nat) : Int) := by
  have := u32_xor_nat' (a / 2) 3988292384 (by omega) (by decide)
  simpa using this

set_option maxHeartbeats 1000000 in
theorem step_any (G : Nat) (r c : Nat) (w : World) (hcell : w.cell? ⟨G, 0, none⟩ = some (.int .u32 r)) (hfr : w.frozen? ⟨G, 0, none⟩ = false) (hr : r < 4294967296) (hc : c < 256) :
    Calls Tryz.prog 142 #[.pointer (some ⟨G, 0, none⟩), .int .u8 c] w fun e w' => e = .returned (.tuple #[]) ∧ w' = w.setCell ⟨G, 0, none⟩ (.int .u32 (crcByte r c)) := by
  have hx := u32_xor_nat' r c hr (by omega)
  have hlt : r ^^^ c < 4294967296 := Nat.xor_lt_two_pow (n := 32) hr (by omega)
  go_enter Tryz.func142, Tryz.ntmps142
  go_wp2
  generalize hX0 : r ^^^ c = X0 at *
  have HX : Hid (r ^^^ c = X0) := hX0
  clear hX0
  go_loop [4, 12] (fun x i => ∃ k : Nat, k ≤ 8 ∧ i = .int .i64 k ∧ x = .int .u32 (crcSteps k X0 : Nat)) (fun _ i => 8 - (intOf i).toNat)
  case atStart => exact ⟨0, by decide, rfl, rfl⟩
  case round =>
    obtain ⟨k, hk, rfl, rfl⟩ := hrel
    by_cases hk8 : k < 8
    · have hlt' := crcSteps_lt k X0 hlt
      have HS : Hid (crcSteps (k + 1) X0 = crcStep (crcSteps k X0)) := crcSteps_snoc k X0
      generalize hY : crcSteps k X0 = Y at *
      clear hY
      have ha := u32_and1 Y hlt'
      by_cases hodd : Y % 2 = 1
      · have HE : Hid (crcStep Y = Y / 2 ^^^ 3988292384) := by show crcStep Y = _; unfold crcStep; rw [if_pos hodd]
        rw [hodd] at ha
        have hxp := u32_xorP Y hlt'
        go_wp2
        go_round
        case rel => exact ⟨k + 1, by omega, by go_num, by rw [HS.out, HE.out]⟩
        case measure => simp [intOf]; omega
      · have h0 : Y % 2 = 0 := by omega
        have HE : Hid (crcStep Y = Y / 2) := by show crcStep Y = _; unfold crcStep; rw [if_neg hodd]
        rw [h0] at ha
        go_wp2
        go_round
        case rel => exact ⟨k + 1, by omega, by go_num, by rw [HS.out, HE.out]; simp⟩
        case measure => simp [intOf]; omega
    · have hke : k = 8 := by omega
      subst hke
      go_wp2
      go_end0
      exact ⟨rfl, by unfold crcByte; rw [HX.out]⟩

/-- What Crc answers. -/
def crcV (l : List Int) : Int := bits .xor .u32 IntKind.u32.max (crcL 4294967295 l : Nat)

set_option maxHeartbeats 1000000 in
theorem crc_any (a : Option Addr) (b off len cap : Nat) (l : List Int) (w : World) (hc : len ≤ cap) (hcm : cap ≤ maxLen) (hL : l.length = len) (hb : isBytes l)
    (ha : a = some ⟨b, off, none⟩ ∨ l = []) (hs : Sees w b off l) :
    Calls Tryz.prog 116 #[.slice a len cap] w fun e w' => e = .returned (.int .u32 (crcV l)) ∧ Below w.heap.size w w' := by
  unfold maxLen at hcm
  have HL : Hid (l.length = len) := hL
  clear hL
  go_enter Tryz.func116, Tryz.ntmps116
  go_wp2
  go_loopw [10] (fun i wr => ∃ k : Nat, k ≤ len ∧ i = .int .i64 k ∧ wr.cell? ⟨w.heap.size, 0, none⟩ = some (.int .u32 (crcL 4294967295 (l.take k) : Nat)) ∧ wr.frozen? ⟨w.heap.size, 0, none⟩ = false ∧ Below w.heap.size w wr) (fun i _ => len - (intOf i).toNat)
  case atStart => exact ⟨0, Nat.zero_le _, rfl, by simp [crcL], by simp [go_sem], below_alloc _ _⟩
  case round =>
    obtain ⟨k, hk, rfl, hcell, hfr, hbel⟩ := hrel
    by_cases hlt : k < len
    · rcases ha with rfl | hnil
      case inr => exact absurd HL.out (by rw [hnil]; simp; omega)
      have hc2 : wr.cell? ⟨b, off + k, none⟩ = some (.int .u8 (l.getD k 0)) := cell_later hbel (hs k (by rw [HL.out]; omega))
      have hbyte := getD_byte l hb k
      have hsn := crcL_snoc 4294967295 (l.take k) (l.getD k 0)
      rw [← take_snoc l k (by rw [HL.out]; omega)] at hsn
      have hrl := crcL_lt 4294967295 (l.take k) (by decide) (isBytes_take hb k)
      generalize hZ : l.getD k 0 = z at *
      clear hZ
      obtain ⟨c, rfl⟩ := Int.eq_ofNat_of_zero_le hbyte.1
      rw [Int.toNat_natCast] at hsn
      have HS : Hid (crcL 4294967295 (l.take (k + 1)) = crcByte (crcL 4294967295 (l.take k)) c) := hsn
      clear hsn
      generalize hR : crcL 4294967295 (l.take k) = r at *
      clear hR
      go_wp2_with fail
      refine (step_any w.heap.size r c _ hcell hfr hrl (by omega)).mono ?_
      rintro e w2 ⟨rfl, hw2⟩
      have k1 : w2.cell? ⟨w.heap.size, 0, none⟩ = some (.int .u32 (crcByte r c : Nat)) := by rw [hw2]; simp [go_sem, hcell]
      have k2 : w2.frozen? ⟨w.heap.size, 0, none⟩ = false := by rw [hw2]; simp [go_sem, hfr]
      have k3 : Below w.heap.size w w2 := by rw [hw2]; exact hbel.setCell (Nat.le_refl _) _
      clear hw2
      go_wp2
      go_roundw
      case rel => exact ⟨k + 1, by omega, by go_num, by rw [HS.out]; exact k1, k2, k3⟩
      case measure => simp [intOf]; omega
    · have hke : k = len := by omega
      subst hke
      have hte : l.take k = l := by rw [List.take_of_length_le]; rw [HL.out]; exact Nat.le_refl _
      rw [hte] at hcell
      clear hte
      go_wp2
      go_ret
      exact ⟨rfl, hbel⟩

end Go.Proofs.YtafkkehcacdodaaGreat
