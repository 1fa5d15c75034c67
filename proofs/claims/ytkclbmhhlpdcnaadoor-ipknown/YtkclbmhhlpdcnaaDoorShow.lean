/- The contract of Show. -/
import Derived.Test.YtkclbmhhlpdcnaaDoorShowMath
import Derived.Test.YtkclbmhhlpdcnaaDoorCopy
import Derived.Lib.AppendIntMem
import Derived.Lib.SlFresh
import Derived.Laws.MakeOwn
set_option maxRecDepth 100000
namespace Go.Proofs.YtkclbmhhlpdcnaaDoor
open Go.RowKit

theorem info9 : (Tryd.prog.info? 9).map (fun i => (i.zero, i.size, i.bytes)) = some (some (.string ByteArray.empty), 1, 16) := by kernel_rfl

/-- A row of texts in memory that is the call's own. -/
def OwnsS (w : World) (base : Nat) (v : Value) (xs : List ByteArray) : Prop := w.ownsRow base 9 1 v xs.length (xs.map Value.string)

theorem OwnsS.below {w w' : World} {base : Nat} {v : Value} {xs : List ByteArray} (h : OwnsS w base v xs) (hb : Below w.heap.size w w') : OwnsS w' base v xs := by
  refine ⟨h.1, ?_⟩
  rcases h.2 with hn | ⟨g, cap, cur, hv, hbase, hg, rest⟩
  · exact .inl hn
  · exact .inr ⟨g, cap, cur, hv, hbase, by rw [hb.block g (Array.getElem?_eq_some_iff.mp hg).1]; exact hg, rest⟩

/-- What a row of four texts is. -/
theorem OwnsS.four {w : World} {base : Nat} {v : Value} {xs : List ByteArray} (h : OwnsS w base v xs) (h4 : xs.length = 4) : ∃ g cap, v = .slice (some ⟨g, 0, none⟩) xs.length cap ∧ g < w.heap.size ∧ xs.length ≤ cap ∧ ∀ (j : Nat) x, xs[j]? = some x → w.cell? ⟨g, 0 + j, none⟩ = some (.string x) := by
  have h' := h
  rcases h'.2 with ⟨-, h0⟩ | ⟨g, cap, cur, rfl, hbase, hg, hn, hm, hs, ht⟩
  · omega
  · refine ⟨g, cap, rfl, (Array.getElem?_eq_some_iff.mp hg).1, hn, ?_⟩
    intro j x hj
    have := World.ownsRow.cells h (g := g) rfl j (.string x) (by simp [hj])
    rw [add_at] at this
    exact this

theorem append_str (W : World) (base : Nat) (v : Value) (xs : List ByteArray) (c : ByteArray) (hv : OwnsS W base v xs) (hbase : base ≤ W.heap.size) (hlen : xs.length ≤ 100) :
    ∃ v' w', (Builtin.append_ #[47, 47] 47 #[v, .slice (some ⟨W.heap.size, 0, none⟩) 1 1]).run Tryd.prog (W.alloc (.cells #[.string c] 9)) = .ok v' w' ∧ OwnsS w' base v' (xs ++ [c]) ∧ Below base W w' := by
  obtain ⟨i0, hi, hz0, hz1, hz2⟩ := info_parts info9
  have hown2 : (W.alloc (.cells #[.string c] 9)).ownsRow base 9 1 v xs.length (xs.map Value.string) := World.ownsRow.alloc hv _
  obtain ⟨v', w', hr, ho, hg, -⟩ := run_append_own (P := Tryd.prog) (W.alloc (.cells #[.string c] 9)) base 47 47 9 i0 (.string ByteArray.empty) 1 16 Tryd.underlying47 hi hz0 hz1 hz2 rfl (by decide) v xs.length (xs.map Value.string) hown2 ⟨W.heap.size, 0, none⟩ 1 1 [.string c] rfl (by
    intro j u hj
    match j, hj with
    | 0, hj => simp at hj; subst hj; simp [Addr.add]) (by intro u hu; simp at hu; subst hu; rfl) (by unfold maxLen; omega) (by omega) (by simp; omega)
  refine ⟨v', w', hr, ?_, ((Below.refl _ _).alloc hbase _).grown hg (by simp; omega) (fun k hk => (World.ownsRow.lt hv k hk).1)⟩
  unfold OwnsS
  simpa using ho

theorem make04 : ∃ Z : Array Value, Hid (Z.size = 4) ∧ ∀ W : World, (Instr.makeSlice 47 (.int .i64 0) (.int .i64 4)).run Tryd.prog W = .ok (.slice (some ⟨W.heap.size, 0, none⟩) 0 4) (W.alloc (.cells Z 9)) := by
  obtain ⟨i0, hi, hz0, hz1, hz2⟩ := info_parts info9
  refine ⟨madeCells #[.string ByteArray.empty] 4, size_madeCells _ _, fun W => ?_⟩
  have := run_make (P := Tryd.prog) W 47 9 i0 (.string ByteArray.empty) Tryd.underlying47 hi hz0 .i64 .i64 0 4 (by decide) (by decide) (by rw [hz2]; decide) (by decide)
  simpa [hz1, Value.cells] using this

theorem owns_made (W : World) (Z : Array Value) (hZ : Z.size = 4) : OwnsS (W.alloc (.cells Z 9)) W.heap.size (.slice (some ⟨W.heap.size, 0, none⟩) 0 4) [] := by
  refine ⟨rfl, .inr ⟨W.heap.size, 4, Z, rfl, Nat.le_refl _, ?_, by decide, by decide, by simp [hZ], by simp⟩⟩
  show (W.heap.push (.cells Z 9))[W.heap.size]? = _
  simp

def partsOf (a : Nat) : List ByteArray := [str (dig (a / 16777216)), str (dig (a / 65536 % 256)), str (dig (a / 256 % 256)), str (dig (a % 256))]

theorem gTab : Tryd.prog.globalNamed "internal/strconv.uint64pow10" = some 3 := by kernel_rfl

theorem mask_u32 (i : Nat) (hi : i ≤ 32) (x : Int) (h0 : 0 ≤ x) (h1 : x < 2 ^ 32) : bits .and .u32 x (2 ^ i - 1) = x % 2 ^ i := bits_mask .u32 32 (by decide) u32_id i hi x h0 h1

set_option maxHeartbeats 2000000 in
theorem show_any (a : Nat) (w : World) (ha : a < 4294967296) (htab : Lib.TabIs Tryd.prog w "internal/strconv.uint64pow10" .u64 Lib.pow10Tab) :
    Calls Tryd.prog 11 #[.int .u32 (a : Int)] w fun e w' => e = .returned (.string (str (showL a))) ∧ Below w.heap.size w w' := by
  obtain ⟨Z, hZ, hmk⟩ := make04
  have m0 : bits .and .u32 ((a : Int) / 16777216) 255 = (a : Int) / 16777216 := by rw [show (255 : Int) = 2 ^ 8 - 1 by decide, mask_u32 8 (by decide) _ (by omega) (by omega)]; omega
  have m1 : bits .and .u32 ((a : Int) / 65536) 255 = (a : Int) / 65536 % 256 := mask_u32 8 (by decide) _ (by omega) (by omega)
  have m2 : bits .and .u32 ((a : Int) / 256) 255 = (a : Int) / 256 % 256 := mask_u32 8 (by decide) _ (by omega) (by omega)
  have m3 : bits .and .u32 (a : Int) 255 = (a : Int) % 256 := mask_u32 8 (by decide) _ (by omega) (by omega)
  have I0 : Hid (Lib.itoa ((a : Int) / 16777216) = dig (a / 16777216)) := by have := itoa_dig (a / 16777216) (by omega); unfold Hid; simpa using this
  have I1 : Hid (Lib.itoa ((a : Int) / 65536 % 256) = dig (a / 65536 % 256)) := by have := itoa_dig (a / 65536 % 256) (by omega); unfold Hid; simpa using this
  have I2 : Hid (Lib.itoa ((a : Int) / 256 % 256) = dig (a / 256 % 256)) := by have := itoa_dig (a / 256 % 256) (by omega); unfold Hid; simpa using this
  have I3 : Hid (Lib.itoa ((a : Int) % 256) = dig (a % 256)) := by have := itoa_dig (a % 256) (by omega); unfold Hid; simpa using this
  have ha' : (a : Int) < 4294967296 := by omega
  go_enter Tryd.func11, Tryd.ntmps11
  go_wp2
  go_loopw [3, 4] (fun v i wr => ∃ k : Nat, k ≤ 4 ∧ i = .int .i64 (24 - 8 * (k : Int)) ∧ OwnsS wr w.heap.size v ((partsOf a).take k) ∧ Below w.heap.size w wr ∧ w.heap.size ≤ wr.heap.size) (fun _ i _ => (intOf i + 8).toNat)
  case atStart => exact ⟨0, by omega, rfl, owns_made w Z hZ.out, below_alloc _ _, by simp⟩
  case round =>
    obtain ⟨k, hk, rfl, hown, hbel, hsz⟩ := hrel
    have ht := Go.Joins.tab_stays gTab htab hbel (Nat.le_refl _)
    have hc : k = 0 ∨ k = 1 ∨ k = 2 ∨ k = 3 ∨ k = 4 := by omega
    rcases hc with rfl | rfl | rfl | rfl | rfl
    · go_wp2_with fail
      refine (Tryd.strconv_Itoa _ (by omega) (by omega) _ ht).mono ?_
      rintro e w1 ⟨rfl, kq, os, hw1⟩
      have hb1 : Below w.heap.size w w1 := hbel.trans (by rw [hw1]; exact Lib.below_grow _ _ hsz _ _)
      have how1 : OwnsS w1 w.heap.size u3 ((partsOf a).take 0) := by rw [hw1]; exact Lib.ownsRow_grow hown kq os
      have hs1 : w.heap.size ≤ w1.heap.size := Nat.le_trans hsz (by rw [hw1]; exact (Lib.below_grow wr.heap.size wr (Nat.le_refl _) kq os).size)
      clear hw1
      obtain ⟨v', w2, hrun, ho, hb2⟩ := append_str w1 w.heap.size _ _ ⟨(Lib.itoa ((a : Int) / 16777216)).toArray⟩ how1 hs1 (by simp [partsOf])
      have R1 : OwnsS w2 w.heap.size v' ((partsOf a).take 1) := by rw [I0.out] at ho; exact ho
      have R2 := hb1.trans hb2
      have R3 := Nat.le_trans hs1 hb2.size
      clear ho hb2
      go_wp2_with (at_builtin; refine Lib.wpList_append_run_sl _ rfl _ _ 47 rfl _ _ rfl rfl hrun ?_)
      go_roundw
      case rel => exact ⟨1, by omega, by go_num, R1, R2, R3⟩
      case measure => simp [intOf]
    · go_wp2_with fail
      refine (Tryd.strconv_Itoa _ (by omega) (by omega) _ ht).mono ?_
      rintro e w1 ⟨rfl, kq, os, hw1⟩
      have hb1 : Below w.heap.size w w1 := hbel.trans (by rw [hw1]; exact Lib.below_grow _ _ hsz _ _)
      have how1 : OwnsS w1 w.heap.size u3 ((partsOf a).take 1) := by rw [hw1]; exact Lib.ownsRow_grow hown kq os
      have hs1 : w.heap.size ≤ w1.heap.size := Nat.le_trans hsz (by rw [hw1]; exact (Lib.below_grow wr.heap.size wr (Nat.le_refl _) kq os).size)
      clear hw1
      obtain ⟨v', w2, hrun, ho, hb2⟩ := append_str w1 w.heap.size _ _ ⟨(Lib.itoa ((a : Int) / 65536 % 256)).toArray⟩ how1 hs1 (by simp [partsOf])
      have R1 : OwnsS w2 w.heap.size v' ((partsOf a).take 2) := by rw [I1.out] at ho; exact ho
      have R2 := hb1.trans hb2
      have R3 := Nat.le_trans hs1 hb2.size
      clear ho hb2
      go_wp2_with (at_builtin; refine Lib.wpList_append_run_sl _ rfl _ _ 47 rfl _ _ rfl rfl hrun ?_)
      go_roundw
      case rel => exact ⟨2, by omega, by go_num, R1, R2, R3⟩
      case measure => simp [intOf]
    · go_wp2_with fail
      refine (Tryd.strconv_Itoa _ (by omega) (by omega) _ ht).mono ?_
      rintro e w1 ⟨rfl, kq, os, hw1⟩
      have hb1 : Below w.heap.size w w1 := hbel.trans (by rw [hw1]; exact Lib.below_grow _ _ hsz _ _)
      have how1 : OwnsS w1 w.heap.size u3 ((partsOf a).take 2) := by rw [hw1]; exact Lib.ownsRow_grow hown kq os
      have hs1 : w.heap.size ≤ w1.heap.size := Nat.le_trans hsz (by rw [hw1]; exact (Lib.below_grow wr.heap.size wr (Nat.le_refl _) kq os).size)
      clear hw1
      obtain ⟨v', w2, hrun, ho, hb2⟩ := append_str w1 w.heap.size _ _ ⟨(Lib.itoa ((a : Int) / 256 % 256)).toArray⟩ how1 hs1 (by simp [partsOf])
      have R1 : OwnsS w2 w.heap.size v' ((partsOf a).take 3) := by rw [I2.out] at ho; exact ho
      have R2 := hb1.trans hb2
      have R3 := Nat.le_trans hs1 hb2.size
      clear ho hb2
      go_wp2_with (at_builtin; refine Lib.wpList_append_run_sl _ rfl _ _ 47 rfl _ _ rfl rfl hrun ?_)
      go_roundw
      case rel => exact ⟨3, by omega, by go_num, R1, R2, R3⟩
      case measure => simp [intOf]
    · go_wp2_with fail
      refine (Tryd.strconv_Itoa _ (by omega) (by omega) _ ht).mono ?_
      rintro e w1 ⟨rfl, kq, os, hw1⟩
      have hb1 : Below w.heap.size w w1 := hbel.trans (by rw [hw1]; exact Lib.below_grow _ _ hsz _ _)
      have how1 : OwnsS w1 w.heap.size u3 ((partsOf a).take 3) := by rw [hw1]; exact Lib.ownsRow_grow hown kq os
      have hs1 : w.heap.size ≤ w1.heap.size := Nat.le_trans hsz (by rw [hw1]; exact (Lib.below_grow wr.heap.size wr (Nat.le_refl _) kq os).size)
      clear hw1
      obtain ⟨v', w2, hrun, ho, hb2⟩ := append_str w1 w.heap.size _ _ ⟨(Lib.itoa ((a : Int) % 256)).toArray⟩ how1 hs1 (by simp [partsOf])
      have R1 : OwnsS w2 w.heap.size v' ((partsOf a).take 4) := by rw [I3.out] at ho; exact ho
      have R2 := hb1.trans hb2
      have R3 := Nat.le_trans hs1 hb2.size
      clear ho hb2
      go_wp2_with (at_builtin; refine Lib.wpList_append_run_sl _ rfl _ _ 47 rfl _ _ rfl rfl hrun ?_)
      go_roundw
      case rel => exact ⟨4, by omega, by go_num, R1, R2, R3⟩
      case measure => simp [intOf]
    · obtain ⟨g, cap, rfl, hg, hcap, hcells⟩ := hown.four rfl
      have hj := Tryd.strings_Join g 0 cap ((partsOf a).take 4) ⟨#[46]⟩ wr hcells hg (by simp [partsOf]) hcap (by
        have := join_show a
        simp only [partsOf, List.take, List.map, str_data]
        rw [this]
        have := showL_len a ha
        omega)
      go_wp2_with fail
      refine hj.mono ?_
      rintro e w1 ⟨rfl, hb1⟩
      go_wp2
      go_ret
      refine ⟨?_, hbel.trans (hb1.mono hsz)⟩
      have := join_show a
      simp only [partsOf, List.take, List.map, str_data]
      rw [this]
      rfl
end Go.Proofs.YtkclbmhhlpdcnaaDoor
