/- The document's own Show. -/
import Derived.Test.YtkclbmhhlpdcnabDoorShow
import Derived.Laws.IdiomStrings
set_option maxRecDepth 100000
namespace Go.Proofs.YtkclbmhhlpdcnabDoor
open Go.RowKit

theorem str_inj' {x y : ByteArray} (h : x.data.toList = y.data.toList) : x = y := by
  cases x; cases y; simp at h; simpa using h

theorem dig_len3 (b : Nat) : (dig b).length ≤ 3 := by
  unfold dig
  split
  · simp
  · split <;> simp

theorem dig_one (n : Nat) (h : n < 10) : dig n = [UInt8.ofNat (48 + n % 10)] := by
  unfold dig; rw [if_pos h, Nat.mod_eq_of_lt h]

theorem dig_more (n : Nat) (h : n < 256) (h10 : ¬ n < 10) : dig n = dig (n / 10) ++ [UInt8.ofNat (48 + n % 10)] := by
  unfold dig
  rw [if_neg h10]
  by_cases h2 : n < 100
  · rw [if_pos h2, if_pos (by omega)]; simp
  · rw [if_neg h2, if_neg (by omega), if_pos (by omega)]
    have e1 : n / 10 / 10 = n / 100 := by omega
    rw [e1]; rfl

theorem conv1 (z : Int) (c : UInt8) (hz : z = (c.toNat : Int)) (W : World) : (convert 29 9 (.slice (some ⟨W.heap.size, 0, none⟩) 1 1)).run Tryd.prog (W.alloc (.cells #[.int .u8 z] 5)) = .ok (.string ⟨#[c]⟩) (W.alloc (.cells #[.int .u8 z] 5)) := by
  subst hz
  refine run_convert_bytes_back (P := Tryd.prog) (W.alloc (.cells #[.int .u8 (c.toNat : Int)] 5)) 29 9 5 ⟨W.heap.size, 0, none⟩ 1 [c] Tryd.underlying29 Tryd.underlying5 Tryd.underlying9 ?_
  intro j hj
  have hj0 : j = 0 := by simp at hj; omega
  subst hj0
  simp [Addr.add]

theorem cat1 (c : UInt8) (l : List UInt8) : (⟨#[c]⟩ : ByteArray) ++ str l = str (c :: l) := by
  apply str_inj'
  simp [str]

set_option maxHeartbeats 2000000 in
theorem dec_any (b : Nat) (w : World) (hb : b < 256) :
    Calls Tryd.prog 16 #[.int .u64 (b : Int)] w fun e w' => e = .returned (.string (str (dig b))) ∧ Below w.heap.size w w' := by
  have H0 : Hid (b < 256) := hb
  clear hb
  go_enter Tryd.func16, Tryd.ntmps16
  go_wp2
  go_loopw [0, 3] (fun x t wr => ∃ (n : Nat) (l : List UInt8), n < 256 ∧ x = .int .u64 (n : Int) ∧ t = .string (str l) ∧ Hid (dig n ++ l = dig b) ∧ Below w.heap.size w wr) (fun x _ _ => (intOf x).toNat)
  case atStart => exact ⟨b, [], H0.out, rfl, rfl, by show _ = _; simp, Below.refl _ _⟩
  case round =>
    obtain ⟨n, l, hn, rfl, rfl, HD, hbel⟩ := hrel
    obtain ⟨c, hce⟩ : ∃ c, c = UInt8.ofNat (48 + n % 10) := ⟨_, rfl⟩
    have hc := conv1 (48 + (n : Int) % 10) c (by rw [hce, UInt8.toNat_ofNat']; omega)
    have hcat := cat1 c l
    have HC : Hid (c = UInt8.ofNat (48 + n % 10)) := hce
    clear hce
    have hls : (str l).size ≤ 3 := by
      have h1 := congrArg List.length HD.out
      have h2 := dig_len3 b
      simp at h1
      simp [str, ByteArray.size]
      omega
    by_cases h10 : n < 10
    · have HR : Hid (str (c :: l) = str (dig b)) := by
        have := HD.out
        rw [dig_one n h10, ← HC.out] at this
        show _ = _
        rw [← this]; rfl
      go_wp2
      go_ret
      exact ⟨by rw [HR.out]; rfl, hbel.trans (Below.alloc (Below.refl _ _) hbel.size _)⟩
    · have HR : Hid (dig (n / 10) ++ (c :: l) = dig b) := by
        have := HD.out
        rw [dig_more n hn h10, ← HC.out] at this
        show _ = _
        rw [← this]; simp
      go_wp2
      refine ⟨⟨n / 10, c :: l, by omega, by go_num, rfl, HR, hbel.trans (Below.alloc (Below.refl _ _) hbel.size _)⟩, ?_⟩
      simp [intOf]
      omega

theorem dec_int (z : Int) (b : Nat) (D : ByteArray) (w : World) (hb : b < 256) (hz : z = (b : Int)) (hD : D = str (dig b)) :
    Calls Tryd.prog 16 #[.int .u64 z] w fun e w' => e = .returned (.string D) ∧ Below w.heap.size w w' := by
  subst hz hD
  exact dec_any b w hb

theorem dig_str (b : Nat) : ∃ D, D = str (dig b) ∧ D.size ≤ 3 := ⟨_, rfl, by have := dig_len3 b; simp [str, ByteArray.size]; omega⟩

set_option maxHeartbeats 2000000 in
theorem rshow_any (a : Nat) (w : World) (ha : a < 4294967296) :
    Calls Tryd.prog 8 #[.int .u32 (a : Int)] w fun e w' => e = .returned (.string (str (showL a))) ∧ Below w.heap.size w w' := by
  have m1 : bits .and .u32 ((a : Int) / 65536) 255 = (a : Int) / 65536 % 256 := mask_u32 8 (by decide) _ (by omega) (by omega)
  have m2 : bits .and .u32 ((a : Int) / 256) 255 = (a : Int) / 256 % 256 := mask_u32 8 (by decide) _ (by omega) (by omega)
  have m3 : bits .and .u32 (a : Int) 255 = (a : Int) % 256 := mask_u32 8 (by decide) _ (by omega) (by omega)
  obtain ⟨D0, E0, z0⟩ := dig_str (a / 16777216)
  obtain ⟨D1, E1, z1⟩ := dig_str (a / 65536 % 256)
  obtain ⟨D2, E2, z2⟩ := dig_str (a / 256 % 256)
  obtain ⟨D3, E3, z3⟩ := dig_str (a % 256)
  have HE : Hid (D0 ++ ⟨#[46]⟩ ++ D1 ++ ⟨#[46]⟩ ++ D2 ++ ⟨#[46]⟩ ++ D3 = str (showL a)) := by
    show _ = _
    apply str_inj'
    rw [E0, E1, E2, E3]
    simp [str, showL]
  have F0 : Hid (D0 = _) := E0
  have F1 : Hid (D1 = _) := E1
  have F2 : Hid (D2 = _) := E2
  have F3 : Hid (D3 = _) := E3
  clear E0 E1 E2 E3
  go_enter Tryd.func8, Tryd.ntmps8
  go_wp2_with fail
  refine (dec_int _ _ D0 w (by omega) (by omega) F0.out).mono ?_
  rintro e w1 ⟨rfl, b1⟩
  go_wp2_with fail
  refine (dec_int _ _ D1 w1 (by omega) (by omega) F1.out).mono ?_
  rintro e w2 ⟨rfl, b2⟩
  have b2' := below_trans b1 b2
  clear b1 b2
  go_wp2_with fail
  refine (dec_int _ _ D2 w2 (by omega) (by omega) F2.out).mono ?_
  rintro e w3 ⟨rfl, b3⟩
  have b3' := below_trans b2' b3
  clear b2' b3
  go_wp2_with fail
  refine (dec_int _ _ D3 w3 (by omega) (by omega) F3.out).mono ?_
  rintro e w4 ⟨rfl, b4⟩
  have b4' := below_trans b3' b4
  clear b3' b4
  go_wp2_with fail
  go_ret
  exact ⟨by rw [HE.out]; rfl, b4'⟩
end Go.Proofs.YtkclbmhhlpdcnabDoor
