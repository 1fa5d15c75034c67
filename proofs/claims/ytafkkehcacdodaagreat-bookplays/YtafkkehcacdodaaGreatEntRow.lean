/- The contract of Lay at numbers of up to eight bytes, and of the document's Encode and Decode. -/
import Derived.Test.YtafkkehcacdodaaGreatEntCheck
set_option maxRecDepth 100000
namespace Go.Proofs.YtafkkehcacdodaaGreat
open Go.RowKit

theorem bigE_8 (x : Int) : bigE 8 x = (x / 72057594037927936 % 256) :: bigE 7 x := by rw [bigE_head, show (256 : Int) ^ 7 = 72057594037927936 by decide]
theorem bigE_7 (x : Int) : bigE 7 x = (x / 281474976710656 % 256) :: bigE 6 x := by rw [bigE_head, show (256 : Int) ^ 6 = 281474976710656 by decide]
theorem bigE_6 (x : Int) : bigE 6 x = (x / 1099511627776 % 256) :: bigE 5 x := by rw [bigE_head, show (256 : Int) ^ 5 = 1099511627776 by decide]
theorem bigE_5 (x : Int) : bigE 5 x = (x / 4294967296 % 256) :: bigE 4 x := by rw [bigE_head, show (256 : Int) ^ 4 = 4294967296 by decide]
theorem bigE_4 (x : Int) : bigE 4 x = (x / 16777216 % 256) :: bigE 3 x := by rw [bigE_head, show (256 : Int) ^ 3 = 16777216 by decide]
theorem bigE_3 (x : Int) : bigE 3 x = (x / 65536 % 256) :: bigE 2 x := by rw [bigE_head, show (256 : Int) ^ 2 = 65536 by decide]
theorem bigE_2 (x : Int) : bigE 2 x = (x / 256 % 256) :: bigE 1 x := by rw [bigE_head, show (256 : Int) ^ 1 = 256 by decide]
theorem bigE_1 (x : Int) : bigE 1 x = (x % 256) :: bigE 0 x := rfl

set_option maxHeartbeats 4000000 in
theorem lay_big (W : World) (base : Nat) (v : Value) (l : List Int) (q : Int) (n : Nat) (x : Int) (w0 : World) (hv : Owns W base v l) (hbase : base ≤ W.heap.size) (hlen : l.length ≤ 5000) (hq : q = (n : Int)) (hn : n ≤ 8) (hb0 : Below base w0 W) :
    Calls Tryz.prog 102 #[v, .int .i64 q, .int .u64 x] W fun e w' => ∃ v', e = .returned v' ∧ Owns w' base v' (l ++ bigE n x) ∧ Below base w0 w' ∧ base ≤ w'.heap.size := by
  subst hq
  go_enter Tryz.func102, Tryz.ntmps102
  go_wp2
  go_loopw [0, 7] (fun v i wr => ∃ (m : Nat) (L : List Int), m ≤ n ∧ i = .int .i64 ((m : Int) - 1) ∧ Owns wr base v L ∧ L ++ bigE m x = l ++ bigE n x ∧ L.length + m ≤ 5008 ∧ Below base w0 wr ∧ base ≤ wr.heap.size) (fun _ i _ => (intOf i + 1).toNat)
  case atStart => exact ⟨n, l, Nat.le_refl _, rfl, hv, rfl, by omega, hb0, hbase⟩
  case round =>
    obtain ⟨m, L, hm, rfl, hown, hL, hLl, hbel, hsz⟩ := hrel
    have HL : Hid (L ++ bigE m x = l ++ bigE n x) := hL
    clear hL
    by_cases hpos : 0 < m
    · have hc : m = 1 ∨ m = 2 ∨ m = 3 ∨ m = 4 ∨ m = 5 ∨ m = 6 ∨ m = 7 ∨ m = 8 := by omega
      have key : ∀ (k : Nat) (c : Int), (L ++ c :: bigE k x = l ++ bigE n x) → Hid ((L ++ [c]) ++ bigE k x = l ++ bigE n x) := by
        intro k c h; show _ = _; rw [← h, List.append_assoc]; rfl
      rcases hc with rfl | rfl | rfl | rfl | rfl | rfl | rfl | rfl
      · have R1 := key 0 (x % 256) (by rw [← bigE_1]; exact HL.out)
        obtain ⟨v', w1, hrun, ho, hb⟩ := append_one wr base _ L (x % 256) hown hsz (by omega)
        have R2 : Below base w0 w1 := hbel.trans hb
        have R3 : base ≤ w1.heap.size := Nat.le_trans hsz hb.size
        clear key
        go_wp2_with (at_builtin; refine wpl_append_run rfl _ _ 39 rfl _ _ rfl rfl hrun ?_)
        go_roundw
        case rel => exact ⟨0, L ++ [x % 256], by omega, by go_num, ho, R1.out, by simp; omega, R2, R3⟩
        case measure => simp [intOf]
      · have R1 := key 1 (x / 256 % 256) (by rw [← bigE_2]; exact HL.out)
        obtain ⟨v', w1, hrun, ho, hb⟩ := append_one wr base _ L (x / 256 % 256) hown hsz (by omega)
        have R2 : Below base w0 w1 := hbel.trans hb
        have R3 : base ≤ w1.heap.size := Nat.le_trans hsz hb.size
        clear key
        go_wp2_with (at_builtin; refine wpl_append_run rfl _ _ 39 rfl _ _ rfl rfl hrun ?_)
        go_roundw
        case rel => exact ⟨1, L ++ [x / 256 % 256], by omega, by go_num, ho, R1.out, by simp; omega, R2, R3⟩
        case measure => simp [intOf]
      · have R1 := key 2 (x / 65536 % 256) (by rw [← bigE_3]; exact HL.out)
        obtain ⟨v', w1, hrun, ho, hb⟩ := append_one wr base _ L (x / 65536 % 256) hown hsz (by omega)
        have R2 : Below base w0 w1 := hbel.trans hb
        have R3 : base ≤ w1.heap.size := Nat.le_trans hsz hb.size
        clear key
        go_wp2_with (at_builtin; refine wpl_append_run rfl _ _ 39 rfl _ _ rfl rfl hrun ?_)
        go_roundw
        case rel => exact ⟨2, L ++ [x / 65536 % 256], by omega, by go_num, ho, R1.out, by simp; omega, R2, R3⟩
        case measure => simp [intOf]
      · have R1 := key 3 (x / 16777216 % 256) (by rw [← bigE_4]; exact HL.out)
        obtain ⟨v', w1, hrun, ho, hb⟩ := append_one wr base _ L (x / 16777216 % 256) hown hsz (by omega)
        have R2 : Below base w0 w1 := hbel.trans hb
        have R3 : base ≤ w1.heap.size := Nat.le_trans hsz hb.size
        clear key
        go_wp2_with (at_builtin; refine wpl_append_run rfl _ _ 39 rfl _ _ rfl rfl hrun ?_)
        go_roundw
        case rel => exact ⟨3, L ++ [x / 16777216 % 256], by omega, by go_num, ho, R1.out, by simp; omega, R2, R3⟩
        case measure => simp [intOf]
      · have R1 := key 4 (x / 4294967296 % 256) (by rw [← bigE_5]; exact HL.out)
        obtain ⟨v', w1, hrun, ho, hb⟩ := append_one wr base _ L (x / 4294967296 % 256) hown hsz (by omega)
        have R2 : Below base w0 w1 := hbel.trans hb
        have R3 : base ≤ w1.heap.size := Nat.le_trans hsz hb.size
        clear key
        go_wp2_with (at_builtin; refine wpl_append_run rfl _ _ 39 rfl _ _ rfl rfl hrun ?_)
        go_roundw
        case rel => exact ⟨4, L ++ [x / 4294967296 % 256], by omega, by go_num, ho, R1.out, by simp; omega, R2, R3⟩
        case measure => simp [intOf]
      · have R1 := key 5 (x / 1099511627776 % 256) (by rw [← bigE_6]; exact HL.out)
        obtain ⟨v', w1, hrun, ho, hb⟩ := append_one wr base _ L (x / 1099511627776 % 256) hown hsz (by omega)
        have R2 : Below base w0 w1 := hbel.trans hb
        have R3 : base ≤ w1.heap.size := Nat.le_trans hsz hb.size
        clear key
        go_wp2_with (at_builtin; refine wpl_append_run rfl _ _ 39 rfl _ _ rfl rfl hrun ?_)
        go_roundw
        case rel => exact ⟨5, L ++ [x / 1099511627776 % 256], by omega, by go_num, ho, R1.out, by simp; omega, R2, R3⟩
        case measure => simp [intOf]
      · have R1 := key 6 (x / 281474976710656 % 256) (by rw [← bigE_7]; exact HL.out)
        obtain ⟨v', w1, hrun, ho, hb⟩ := append_one wr base _ L (x / 281474976710656 % 256) hown hsz (by omega)
        have R2 : Below base w0 w1 := hbel.trans hb
        have R3 : base ≤ w1.heap.size := Nat.le_trans hsz hb.size
        clear key
        go_wp2_with (at_builtin; refine wpl_append_run rfl _ _ 39 rfl _ _ rfl rfl hrun ?_)
        go_roundw
        case rel => exact ⟨6, L ++ [x / 281474976710656 % 256], by omega, by go_num, ho, R1.out, by simp; omega, R2, R3⟩
        case measure => simp [intOf]
      · have R1 := key 7 (x / 72057594037927936 % 256) (by rw [← bigE_8]; exact HL.out)
        obtain ⟨v', w1, hrun, ho, hb⟩ := append_one wr base _ L (x / 72057594037927936 % 256) hown hsz (by omega)
        have R2 : Below base w0 w1 := hbel.trans hb
        have R3 : base ≤ w1.heap.size := Nat.le_trans hsz hb.size
        clear key
        go_wp2_with (at_builtin; refine wpl_append_run rfl _ _ 39 rfl _ _ rfl rfl hrun ?_)
        go_roundw
        case rel => exact ⟨7, L ++ [x / 72057594037927936 % 256], by omega, by go_num, ho, R1.out, by simp; omega, R2, R3⟩
        case measure => simp [intOf]
    · have hm0 : m = 0 := by omega
      subst hm0
      have hLe : L = l ++ bigE n x := by have := HL.out; rwa [show bigE 0 x = [] from rfl, List.append_nil] at this
      rw [hLe] at hown
      clear HL hLe
      go_wp2
      go_ret
      exact ⟨_, rfl, hown, hbel, hsz⟩

end Go.Proofs.YtafkkehcacdodaaGreat
