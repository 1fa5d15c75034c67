/- The contract of Decode in the document's own answer. -/
import Derived.Test.YtafkkehcacdodaaGreatEntDecA
set_option maxRecDepth 100000
namespace Go.Proofs.YtafkkehcacdodaaGreat
open Go.RowKit

theorem sizeK_bd (c : Int) : (sizeK c = 0 ∨ 0 < sizeK c) ∧ sizeK c ≤ 19 := by
  unfold sizeK
  by_cases h1 : c = 1
  · rw [if_pos h1]; omega
  by_cases h2 : c = 2
  · rw [if_neg h1, if_pos h2]; omega
  by_cases h3 : c = 3
  · rw [if_neg h1, if_neg h2, if_pos h3]; omega
  rw [if_neg h1, if_neg h2, if_neg h3]; omega

set_option maxHeartbeats 2000000 in
theorem rdecode_no (a : Option Addr) (b off len cap : Nat) (l : List Int) (w : World) (hc : len ≤ maxLen) (hL : l.length = len) (hb : isBytes l) (ha : a = some ⟨b, off, none⟩ ∨ l = []) (hs : Sees w b off l) (h : whyM l ≠ 0) :
    Calls Tryz.prog 37 #[.slice a len cap] w fun r w' => r = .returned (.tuple #[zEV, .int .i64 (whyM l)]) ∧ Below w.heap.size w w' := by
  have hs1 : Sees (w.alloc (.cells zEC 73)) b off l := hs.later (below_alloc _ _)
  have bel := below_alloc w (.cells zEC 73)
  unfold maxLen at hc
  clear hs
  rcases Nat.eq_zero_or_pos len with h0 | h0
  · subst h0
    have E : Hid (whyM l = 2) := by show whyM l = 2; unfold whyM; rw [if_pos hL]
    clear hL h hb ha hs1
    go_enter Tryz.func37, Tryz.ntmps37
    go_wp2
    refine bodyPost_ret (v := .tuple #[zEV, .int .i64 2]) ?_ rfl ?_
    · simp [results, Tryz.results37, go_sem]
    · exact ⟨by rw [E.out], bel⟩
  rcases ha with rfl | hnil
  case inr => subst hnil; simp at hL; omega
  have hcell : (w.alloc (.cells zEC 73)).cell? ⟨b, off, none⟩ = some (.int .u8 (b1 l 0)) := by have := hs1 0 (by omega); rwa [Nat.add_zero] at this
  have hbd := b1_bd l hb 0
  have E : Hid (whyM l = if sizeK (b1 l 0) = 0 then 4 else if (len : Int) < sizeK (b1 l 0) then 2 else if sizeK (b1 l 0) < (len : Int) then 3 else 0) := by
    show whyM l = _; unfold whyM; rw [hL, if_neg (by omega)]
  have hne : Hid (whyM l ≠ 0) := h
  obtain ⟨hsz, hsm⟩ := sizeK_bd (b1 l 0)
  generalize b1 l 0 = c at *
  have hS : ∀ W, Calls Tryz.prog 76 #[.int .i64 c] W fun x w' => x = .returned (.int .i64 (sizeK c)) ∧ w' = W := fun W => rsize_any c W
  generalize sizeK c = n at *
  clear hL hs1 hb h
  rcases hsz with hn | hn
  · subst hn
    have E' : Hid (whyM l = 4) := by show whyM l = 4; rw [E.out, if_pos rfl]
    clear E
    go_enter Tryz.func37, Tryz.ntmps37
    go_wp2_with fail
    refine (hS _).mono ?_
    rintro e w1 ⟨rfl, rfl⟩
    go_wp2
    refine bodyPost_ret (v := .tuple #[zEV, .int .i64 4]) ?_ rfl ?_
    · simp [results, Tryz.results37, go_sem]
    · exact ⟨by rw [E'.out], bel⟩
  have hn0 : n ≠ 0 := by omega
  by_cases h1 : (len : Int) < n
  · have E' : Hid (whyM l = 2) := by show whyM l = 2; rw [E.out, if_neg hn0, if_pos h1]
    clear E
    go_enter Tryz.func37, Tryz.ntmps37
    go_wp2_with fail
    refine (hS _).mono ?_
    rintro e w1 ⟨rfl, rfl⟩
    go_wp2
    refine bodyPost_ret (v := .tuple #[zEV, .int .i64 2]) ?_ rfl ?_
    · simp [results, Tryz.results37, go_sem]
    · exact ⟨by rw [E'.out], bel⟩
  by_cases h2 : n < (len : Int)
  · have E' : Hid (whyM l = 3) := by show whyM l = 3; rw [E.out, if_neg hn0, if_neg h1, if_pos h2]
    clear E
    go_enter Tryz.func37, Tryz.ntmps37
    go_wp2_with fail
    refine (hS _).mono ?_
    rintro e w1 ⟨rfl, rfl⟩
    go_wp2
    refine bodyPost_ret (v := .tuple #[zEV, .int .i64 3]) ?_ rfl ?_
    · simp [results, Tryz.results37, go_sem]
    · exact ⟨by rw [E'.out], bel⟩
  exact absurd (by rw [E.out, if_neg hn0, if_neg h1, if_neg h2]) hne.out

/-- What lies in wait at each call: the bytes, the size of the kind, numbers. -/
theorem rget_later {w W : World} {b off len cap : Nat} {l : List Int} (hA : At w b off len cap l) (hb : Below w.heap.size w W) (p n : Nat) (x y : Int) (hx : x = (p : Int)) (hy : y = (n : Int)) (h1 : 1 ≤ n) (h2 : n ≤ 8) (h3 : p + n ≤ len) :
    Calls Tryz.prog 77 #[.slice (some ⟨b, off, none⟩) len cap, .int .i64 x, .int .i64 y] W fun e w' => e = .returned (.tuple #[.int .u64 (num ((l.drop p).take n)), .bool true]) ∧ w' = W := by
  subst hx hy
  have hA' := hA.later hb
  exact rget_yes b off len cap l p n W (Nat.le_trans hA.cap1 hA.cap2) hA.len hA.bytes hA'.sees h1 h2 h3

set_option maxHeartbeats 2000000 in
theorem rdecode_late (b off len cap : Nat) (l : List Int) (w : World) (hA : At w b off len cap l) (h : whyM l = 0) (h9 : 9 ≤ len) (ht : 1099511627776 < num ((l.drop 1).take 8)) :
    Calls Tryz.prog 37 #[.slice (some ⟨b, off, none⟩) len cap] w fun r w' => r = .returned (.tuple #[zEV, .int .i64 1]) ∧ Below w.heap.size w w' := by
  have bel := below_alloc w (.cells zEC 73)
  have hA0 : At (w.alloc (.cells zEC 73)) b off len cap l := hA.later bel
  have hcell : (w.alloc (.cells zEC 73)).cell? ⟨b, off, none⟩ = some (.int .u8 (b1 l 0)) := by have := hA0.sees 0 (by rw [hA.len]; omega); rwa [Nat.add_zero] at this
  obtain ⟨hl, hk⟩ := whyM_len h
  rw [hA.len] at hl
  have hn1 : ¬ (len : Int) < sizeK (b1 l 0) := by omega
  have hn2 : ¬ sizeK (b1 l 0) < (len : Int) := by omega
  have hn3 : sizeK (b1 l 0) ≠ 0 := by omega
  have HT := rget_later hA bel 1 8 1 8 rfl rfl (by decide) (by decide) (by omega)
  have hbd := b1_bd l hA.bytes 0
  have hc1 := hA.cap1
  have hc2 := hA.cap2
  unfold maxLen at hc2
  generalize num ((l.drop 1).take 8) = t at *
  have hS : ∀ W, Calls Tryz.prog 76 #[.int .i64 (b1 l 0)] W fun x w' => x = .returned (.int .i64 (sizeK (b1 l 0))) ∧ w' = W := fun W => rsize_any _ W
  generalize sizeK (b1 l 0) = n at *
  generalize b1 l 0 = k at *
  clear hA hA0 hl hk h
  go_enter Tryz.func37, Tryz.ntmps37
  go_wp2_with fail
  refine (hS _).mono ?_
  rintro e w1 ⟨rfl, rfl⟩
  go_wp2_with fail
  refine HT.mono ?_
  rintro e w1 ⟨rfl, rfl⟩
  go_wp2
  refine bodyPost_ret (v := .tuple #[zEV, .int .i64 1]) ?_ rfl ?_
  · simp [results, Tryz.results37, go_sem]
  · exact ⟨rfl, bel⟩

end Go.Proofs.YtafkkehcacdodaaGreat
