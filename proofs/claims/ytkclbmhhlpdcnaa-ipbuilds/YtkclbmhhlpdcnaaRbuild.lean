/- The contracts of in, Lay and Build in the document's own answer. -/
import Derived.Test.YtkclbmhhlpdcnaaRword
import Derived.Test.YtkclbmhhlpdcnaaHeader
namespace Go.Proofs.Ytkclbmhhlpdcnaa
open Go.RowKit

def inBb (x m : Int) : Bool := decide (inB x m)

theorem in_any (x m : Int) (w : World) : Calls Try.prog 29 #[.int .i64 x, .int .i64 m] w fun e w' => e = .returned (.bool (inBb x m)) ∧ w' = w := by
  by_cases h0 : 0 ≤ x
  · by_cases h1 : x ≤ m
    · have E : Hid (inBb x m = true) := decide_eq_true (show inB x m from ⟨h0, h1⟩)
      go_enter Try.func29, Try.ntmps29
      go_wp2
      go_ret
      exact ⟨ret_bool E.out.symm, rfl⟩
    · have E : Hid (inBb x m = false) := decide_eq_false (fun h : inB x m => h1 h.2)
      go_enter Try.func29, Try.ntmps29
      go_wp2
      go_ret
      exact ⟨ret_bool E.out.symm, rfl⟩
  · have E : Hid (inBb x m = false) := decide_eq_false (fun h : inB x m => h0 h.1)
    go_enter Try.func29, Try.ntmps29
    go_wp2
    go_ret
    exact ⟨ret_bool E.out.symm, rfl⟩

/-- The lowest n bytes, the highest first. -/
def bytesOfN : Nat → Int → List Int
  | 0, _ => []
  | 1, x => [x % 256]
  | 2, x => [x / 256 % 256, x % 256]
  | 3, x => [x / 65536 % 256, x / 256 % 256, x % 256]
  | _, x => [x / 16777216, x / 65536 % 256, x / 256 % 256, x % 256]

/-- One byte behind a row of the call's own. -/
theorem append_one (W : World) (base : Nat) (v : Value) (l : List Int) (c : Int) (hv : Owns W base v l) (hbase : base ≤ W.heap.size) (hlen : l.length ≤ 140737488351000) :
    ∃ v' w', (Builtin.append_ #[22, 22] 22 #[v, .slice (some ⟨W.heap.size, 0, none⟩) 1 1]).run Try.prog (W.alloc (.cells #[.int .u8 c] 5)) = .ok v' w' ∧ Owns w' base v' (l ++ [c]) ∧ Below base W w' := by
  obtain ⟨i0, hi, hz0, hz1, hz2⟩ := info_parts info5
  have hown2 : (W.alloc (.cells #[.int .u8 c] 5)).ownsRow base 5 1 v l.length (l.map (Value.int .u8)) := World.ownsRow.alloc hv _
  obtain ⟨v', w', hr, ho, hg, -⟩ := run_append_own (P := Try.prog) (W.alloc (.cells #[.int .u8 c] 5)) base 22 22 5 i0 (.int .u8 0) 1 1 Try.underlying22 hi hz0 hz1 hz2 rfl (by decide) v l.length (l.map (Value.int .u8)) hown2 ⟨W.heap.size, 0, none⟩ 1 1 [.int .u8 c] rfl (by
    intro j u hj
    match j, hj with
    | 0, hj => simp at hj; subst hj; simp [Addr.add]) (by intro u hu; simp at hu; subst hu; rfl) (by unfold maxLen; omega) (by omega) (by simp; omega)
  refine ⟨v', w', hr, ?_, ((Below.refl _ _).alloc hbase _).grown hg (by simp; omega) (fun k hk => (hv.lt k hk).1)⟩
  unfold Owns
  simpa using ho

set_option maxHeartbeats 2000000 in
theorem lay_any (W : World) (base : Nat) (v : Value) (l : List Int) (q : Int) (n : Nat) (x : Int) (w0 : World) (hv : Owns W base v l) (hbase : base ≤ W.heap.size) (hlen : l.length ≤ 5000) (hq : q = (n : Int)) (hn : n ≤ 4) (h0 : 0 ≤ x) (h1 : x < 4294967296) (hb0 : Below base w0 W) :
    Calls Try.prog 30 #[v, .int .i64 q, .int .u64 x] W fun e w' => ∃ v', e = .returned v' ∧ Owns w' base v' (l ++ bytesOfN n x) ∧ Below base w0 w' ∧ base ≤ w'.heap.size := by
  subst hq
  go_enter Try.func30, Try.ntmps30
  go_wp2
  go_loopw [0, 7] (fun v i wr => ∃ (m : Nat) (L : List Int), m ≤ n ∧ i = .int .i64 ((m : Int) - 1) ∧ Owns wr base v L ∧ L ++ bytesOfN m x = l ++ bytesOfN n x ∧ L.length + m ≤ 5004 ∧ Below base w0 wr ∧ base ≤ wr.heap.size) (fun _ i _ => (intOf i + 1).toNat)
  case atStart => exact ⟨n, l, Nat.le_refl _, rfl, hv, rfl, by omega, hb0, hbase⟩
  case round =>
    obtain ⟨m, L, hm, rfl, hown, hL, hLl, hbel, hsz⟩ := hrel
    have HL : Hid (L ++ bytesOfN m x = l ++ bytesOfN n x) := hL
    clear hL
    by_cases hpos : 0 < m
    · have hc : m = 1 ∨ m = 2 ∨ m = 3 ∨ m = 4 := by omega
      rcases hc with rfl | rfl | rfl | rfl
      · have hr := append_one wr base _ L (x % 256) hown hsz (by omega)
        obtain ⟨v', w1, hrun, ho, hb⟩ := hr
        have R2 : Below base w0 w1 := hbel.trans hb
        have R3 : base ≤ w1.heap.size := Nat.le_trans hsz hb.size
        have R1 : Hid ((L ++ [x % 256]) ++ bytesOfN 0 x = l ++ bytesOfN n x) := by show _ = _; rw [← HL.out, List.append_assoc]; rfl
        go_wp2_with (at_builtin; refine Lib.wpList_append_run_sl _ rfl _ _ 22 rfl _ _ rfl rfl hrun ?_)
        go_roundw
        case rel => exact ⟨0, L ++ [x % 256], by omega, by go_num, ho, R1.out, by simp; omega, R2, R3⟩
        case measure => simp [intOf]
      · have hr := append_one wr base _ L (x / 256 % 256) hown hsz (by omega)
        obtain ⟨v', w1, hrun, ho, hb⟩ := hr
        have R2 : Below base w0 w1 := hbel.trans hb
        have R3 : base ≤ w1.heap.size := Nat.le_trans hsz hb.size
        have R1 : Hid ((L ++ [x / 256 % 256]) ++ bytesOfN 1 x = l ++ bytesOfN n x) := by show _ = _; rw [← HL.out, List.append_assoc]; rfl
        go_wp2_with (at_builtin; refine Lib.wpList_append_run_sl _ rfl _ _ 22 rfl _ _ rfl rfl hrun ?_)
        go_roundw
        case rel => exact ⟨1, L ++ [x / 256 % 256], by omega, by go_num, ho, R1.out, by simp; omega, R2, R3⟩
        case measure => simp [intOf]
      · have hr := append_one wr base _ L (x / 65536 % 256) hown hsz (by omega)
        obtain ⟨v', w1, hrun, ho, hb⟩ := hr
        have R2 : Below base w0 w1 := hbel.trans hb
        have R3 : base ≤ w1.heap.size := Nat.le_trans hsz hb.size
        have R1 : Hid ((L ++ [x / 65536 % 256]) ++ bytesOfN 2 x = l ++ bytesOfN n x) := by show _ = _; rw [← HL.out, List.append_assoc]; rfl
        go_wp2_with (at_builtin; refine Lib.wpList_append_run_sl _ rfl _ _ 22 rfl _ _ rfl rfl hrun ?_)
        go_roundw
        case rel => exact ⟨2, L ++ [x / 65536 % 256], by omega, by go_num, ho, R1.out, by simp; omega, R2, R3⟩
        case measure => simp [intOf]
      · have hr := append_one wr base _ L (x / 16777216) hown hsz (by omega)
        obtain ⟨v', w1, hrun, ho, hb⟩ := hr
        have R2 : Below base w0 w1 := hbel.trans hb
        have R3 : base ≤ w1.heap.size := Nat.le_trans hsz hb.size
        have R1 : Hid ((L ++ [x / 16777216]) ++ bytesOfN 3 x = l ++ bytesOfN n x) := by show _ = _; rw [← HL.out, List.append_assoc]; rfl
        go_wp2_with (at_builtin; refine Lib.wpList_append_run_sl _ rfl _ _ 22 rfl _ _ rfl rfl hrun ?_)
        go_roundw
        case rel => exact ⟨3, L ++ [x / 16777216], by omega, by go_num, ho, R1.out, by simp; omega, R2, R3⟩
        case measure => simp [intOf]
    · have hm0 : m = 0 := by omega
      subst hm0
      have hLe : L = l ++ bytesOfN n x := by have := HL.out; rwa [show bytesOfN 0 x = [] from rfl, List.append_nil] at this
      rw [hLe] at hown
      clear HL hLe
      go_wp2
      go_ret
      exact ⟨_, rfl, hown, hbel, hsz⟩
end Go.Proofs.Ytkclbmhhlpdcnaa
