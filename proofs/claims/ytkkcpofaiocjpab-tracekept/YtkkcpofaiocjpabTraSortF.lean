/- slices.SortFunc of a row of spans, by their beginnings. -/
import Derived.Test.YtkkcpofaiocjpabTraRows
import Derived.Test.YtkkcpofaiocjpabSpShelf
set_option maxRecDepth 100000
namespace Go.Proofs.Ytkkcpofaiocjpab
open Go.RowKit Go.Shelf Go.Sort

/-- How two numbers stand. -/
def cmpT (x y : Int) : Int := if x < y then -1 else if y < x then 1 else 0

theorem nan_any (x : Int) (W : World) : Calls Try.prog 28 #[.int .i64 x] W fun e w' => e = .returned (.bool false) ∧ w' = W := by
  have hx : (x != x) = false := by simp
  go_enter Try.func28, Try.ntmps28
  go_wp2
  go_ret
  exact ⟨rfl, rfl⟩

theorem compare_any (x y : Int) (W : World) : Calls Try.prog 22 #[.int .i64 x, .int .i64 y] W fun e w' => e = .returned (.int .i64 (cmpT x y)) ∧ w' = W := by
  unfold cmpT
  by_cases h1 : x < y
  · rw [if_pos h1]
    go_enter Try.func22, Try.ntmps22
    go_wp2_with (go_at_call 28; refine (nan_any _ _).mono ?_; rintro e w' ⟨rfl, rfl⟩)
    go_ret
    exact ⟨rfl, rfl⟩
  · rw [if_neg h1]
    have h1' : y ≤ x := by omega
    by_cases h2 : y < x
    · rw [if_pos h2]
      go_enter Try.func22, Try.ntmps22
      go_wp2_with (go_at_call 28; refine (nan_any _ _).mono ?_; rintro e w' ⟨rfl, rfl⟩)
      go_ret
      exact ⟨rfl, rfl⟩
    · rw [if_neg h2]
      have h2' : x ≤ y := by omega
      go_enter Try.func22, Try.ntmps22
      go_wp2_with (go_at_call 28; refine (nan_any _ _).mono ?_; rintro e w' ⟨rfl, rfl⟩)
      go_ret
      exact ⟨rfl, rfl⟩

theorem closure_any (x y : Sp) (W : World) : Calls Try.prog 21 #[spV x, spV y] W fun e w' => e = .returned (.int .i64 (cmpT x.frm y.frm)) ∧ ∃ q os', w' = grow (W.drewN q) os' := by
  obtain ⟨x0, x1, x2, x3, x4, x5⟩ := x
  obtain ⟨y0, y1, y2, y3, y4, y5⟩ := y
  have HC := fun W' => compare_any x3 y3 W'
  simp only
  generalize cmpT x3 y3 = r at *
  go_enter Try.func21, Try.ntmps21
  go_wp2_with (go_at_call 22; refine (HC _).mono ?_; rintro e w' ⟨rfl, rfl⟩)
  go_ret
  exact ⟨rfl, 0, _, by rw [alloc_eq_grow, alloc_eq_grow, grow_grow]; rfl⟩

theorem ltOf_cmp (x y : Sp) : ltOf (fun x y : Sp => cmpT x.frm y.frm) x y = decide (x.frm < y.frm) := by
  unfold ltOf cmpT
  by_cases h1 : x.frm < y.frm
  · simp [h1]
  · by_cases h2 : y.frm < x.frm <;> simp [h1, h2]

theorem swo_cmp : SWO (ltOf fun x y : Sp => cmpT x.frm y.frm) where
  irrefl x := by rw [ltOf_cmp]; simp
  trans x y z h1 h2 := by rw [ltOf_cmp] at *; simp at *; omega
  ntrans x y z h1 h2 := by rw [ltOf_cmp] at *; simp at *; omega

/-- A row of the call's own, laid anew. -/
theorem ownsRow_put {W : World} {base g n cap size m : Nat} {e : TypeId} {xs : List Value} {os : Array Obj} (h : W.ownsRow base e size (.slice (some ⟨g, 0, none⟩) n cap) n xs) (F : Array Value) (hF : F.size = n * size) :
    (grow (putRow id (Sort.ahead W m) g 0 F) os).ownsRow base e size (.slice (some ⟨g, 0, none⟩) n cap) n F.toList := by
  refine ⟨by simp [hF], ?_⟩
  rcases h.2 with ⟨hn, _⟩ | ⟨g', cap', cur, hv, h1, h2, h3, h4, h5, h6⟩
  · cases hn
  · injection hv with ha _ hc
    injection ha with ha
    injection ha with hg
    subst hg
    subst hc
    have hgl : g < W.heap.size := (Array.getElem?_eq_some_iff.1 h2).1
    have hsz : n * size ≤ cap * size := Nat.mul_le_mul_right _ h3
    refine .inr ⟨g, cap, putCells id 0 F cur, rfl, h1, ?_, h3, h4, by simp [putCells, h5], ?_⟩
    · rw [heap_grow_old _ _ (by simpa using hgl)]
      simp [putRow, mapBlock, Sort.ahead, Array.getElem?_modify, h2, onCells]
    · apply List.ext_getElem?
      intro j
      by_cases hj : j < n * size
      · have hjF : j < F.size := by omega
        rw [List.getElem?_take_of_lt hj, Array.getElem?_toList, Array.getElem?_toList]
        simp [putCells, hjF, show j < cur.size by omega]
      · rw [List.getElem?_take_eq_none (by omega), List.getElem?_eq_none (by simp [hF]; omega)]

theorem grown_put {W : World} {g m : Nat} {os : Array Obj} (F : Array Value) : W.grownBy (grow (putRow id (Sort.ahead W m) g 0 F) os) (some g) := by
  refine ⟨rfl, rfl, rfl, by simp, fun k hk hne => ?_⟩
  rw [heap_grow_old _ _ (by simpa using hk)]
  have : g ≠ k := fun e => hne (by rw [e])
  simp [putRow, mapBlock, Sort.ahead, Array.getElem?_modify, this]

theorem flatK_list (l : List Sp) : (flatK spC 6 l.toArray).toList = l.flatMap spC := by
  apply List.ext_getElem?
  intro j
  have hl := flat_length spC_length l
  have hs : (flatK spC 6 l.toArray).size = l.length * 6 := by simp
  by_cases hj : j < l.length * 6
  · rw [Array.getElem?_toList, Array.getElem?_eq_getElem (by omega)]
    have h1 := get_flatK spC 6 l.toArray j (by simpa using hj)
    rw [getElem!_pos _ j (by omega)] at h1
    rw [h1]
    have hi : j / 6 < l.length := by omega
    have h2 := flat_get spC_length (l := l) (i := j / 6) (j := j % 6) (List.getElem?_eq_getElem hi) (Nat.mod_lt _ (by decide))
    rw [show j / 6 * 6 + j % 6 = j by omega] at h2
    rw [h2, List.getElem?_eq_getElem (by rw [spC_length]; exact Nat.mod_lt _ (by decide))]
    congr 1
    rw [getElem!_pos (l.toArray) (j / 6) (by simpa using hi), getElem!_pos (spC _) (j % 6) (by rw [spC_length]; exact Nat.mod_lt _ (by decide))]
    rfl
  · rw [Array.getElem?_toList, Array.getElem?_eq_none (by omega), List.getElem?_eq_none (by omega)]

theorem enters_rows1 : ∀ (args : Array Value) (w : World), (callFunc 21 args).run Try.prog w = .ok (.enter 21 args) w := enters_of Try.func21 (by kernel_rfl) rfl

theorem sort_sp : SortSp := by
  intro W base g cap l h hl
  have hgl := (ownsRow_lt h rfl).2
  have hH : HoldsK spC 6 W g 0 l.toArray := by
    intro j hj
    have hj' : j < l.length * 6 := by simpa using hj
    refine ⟨?_, ownsRow_frozen h _⟩
    rw [Nat.zero_add, ownsRow_cell h j hj', ← flatK_list, Array.getElem?_toList, Array.getElem?_eq_getElem hj, getElem!_pos _ j hj]
    rfl
  have hcmp : CmpLays Try.prog 21 #[] spC 6 (fun x y : Sp => cmpT x.frm y.frm) g 0 l.toArray.size W := fun m os dk _ x y => closure_any x y _
  have hcon := AnyQ.slices_SortFunc Try.sortSp 6 Try.isAgg32 Try.sizeOf32 spC spC_length (fun x v hv => by
    unfold spC at hv
    simp at hv
    rcases hv with rfl | rfl | rfl | rfl | rfl | rfl <;> rfl) (fun x y : Sp => cmpT x.frm y.frm) swo_cmp 21 #[] g 0 cap l.toArray W enters_rows1 hcmp hH hgl (by simp; omega)
  change Calls Try.prog 20 _ _ _ at hcon
  have hsz : l.toArray.size = l.length := by simp
  rw [hsz] at hcon
  refine hcon.mono ?_
  rintro e w' ⟨rfl, d', n, os, hp, hs, rfl⟩
  obtain ⟨hp1, hp2, hp3⟩ := hp
  have hd : d'.size = l.length := by simpa using hp1
  have hx1 : (d'.extract 0 l.length) = d' := by rw [← hd]; simp
  have hx2 : (l.toArray.extract 0 l.length) = l.toArray := by simp
  rw [hx1, hx2] at hp3
  refine ⟨rfl, d'.toList, hp3, ?_, ?_, ?_⟩
  · rw [List.pairwise_iff_getElem]
    intro i j hi hj hij
    have := hs i j (Nat.zero_le _) hij (by simpa [hd] using hj)
    rw [ltOf_cmp] at this
    simp at hi hj
    rw [getElem!_pos d' j hj, getElem!_pos d' i hi] at this
    simp at this
    simpa using this
  · have h6 := ownsRow_put (m := n) (os := os) h (flatK spC 6 d') (by simp [hd])
    have e1 : d'.toList.length = l.length := by simp [hd]
    show World.ownsRow _ base _ 6 _ d'.toList.length (d'.toList.flatMap spC)
    rw [e1, ← flatK_list d'.toList]
    exact h6
  · exact grown_put _

end Go.Proofs.Ytkkcpofaiocjpab
