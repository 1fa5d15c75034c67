/- The document's meet: of any two spans. -/
import Derived.Test.YtkkcpofaiocjpaaTraApart
import Derived.Shelf.SlSortCmp.QuietGrown
set_option maxRecDepth 100000
namespace Go.Proofs.Ytkkcpofaiocjpaa
open Go.RowKit Go.Maps Go.Shelf Go.Sort

set_option maxHeartbeats 4000000 in
theorem meet_any (x y : Sp) (w : World) : Calls Try.prog 34 #[spV x, spV y] w fun e w' => e = .returned (.bool (meetB x y)) ∧ ∃ q os', w' = grow (w.drewN q) os' := by
  obtain ⟨x0, x1, x2, x3, x4, x5⟩ := x
  obtain ⟨y0, y1, y2, y3, y4, y5⟩ := y
  have hbb : ∃ q os', ((w.alloc (.cells #[.int .u32 x0, .int .u32 x1, .int .i64 x2, .int .i64 x3, .int .i64 x4, .bool x5] 46)).alloc (.cells #[.int .u32 y0, .int .u32 y1, .int .i64 y2, .int .i64 y3, .int .i64 y4, .bool y5] 46)) = grow (w.drewN q) os' :=
    ⟨0, _, by rw [alloc_eq_grow, alloc_eq_grow, grow_grow]; rfl⟩
  cases x5
  · cases y5
    · by_cases c1 : y3 ≤ x4
      · by_cases c2 : x3 ≤ y4
        · by_cases c3 : x3 ≤ x4
          · by_cases c4 : y3 ≤ y4
            · go_enter Try.func34, Try.ntmps34
              go_wp2
              go_ret
              exact ⟨by unfold meetB; simp <;> omega, hbb⟩
            · have c4' : y4 < y3 := by omega
              go_enter Try.func34, Try.ntmps34
              go_wp2
              go_ret
              exact ⟨by unfold meetB; simp <;> omega, hbb⟩
          · have c3' : x4 < x3 := by omega
            go_enter Try.func34, Try.ntmps34
            go_wp2
            go_ret
            exact ⟨by unfold meetB; simp <;> omega, hbb⟩
        · have c2' : y4 < x3 := by omega
          go_enter Try.func34, Try.ntmps34
          go_wp2
          go_ret
          exact ⟨by unfold meetB; simp <;> omega, hbb⟩
      · have c1' : x4 < y3 := by omega
        go_enter Try.func34, Try.ntmps34
        go_wp2
        go_ret
        exact ⟨by unfold meetB; simp <;> omega, hbb⟩
    · by_cases c1 : y3 ≤ x4
      · by_cases c3 : x3 ≤ x4
        · go_enter Try.func34, Try.ntmps34
          go_wp2
          go_ret
          exact ⟨by unfold meetB; simp <;> omega, hbb⟩
        · have c3' : x4 < x3 := by omega
          go_enter Try.func34, Try.ntmps34
          go_wp2
          go_ret
          exact ⟨by unfold meetB; simp <;> omega, hbb⟩
      · have c1' : x4 < y3 := by omega
        go_enter Try.func34, Try.ntmps34
        go_wp2
        go_ret
        exact ⟨by unfold meetB; simp <;> omega, hbb⟩
  · cases y5
    · by_cases c2 : x3 ≤ y4
      · by_cases c4 : y3 ≤ y4
        · go_enter Try.func34, Try.ntmps34
          go_wp2
          go_ret
          exact ⟨by unfold meetB; simp <;> omega, hbb⟩
        · have c4' : y4 < y3 := by omega
          go_enter Try.func34, Try.ntmps34
          go_wp2
          go_ret
          exact ⟨by unfold meetB; simp <;> omega, hbb⟩
      · have c2' : y4 < x3 := by omega
        go_enter Try.func34, Try.ntmps34
        go_wp2
        go_ret
        exact ⟨by unfold meetB; simp <;> omega, hbb⟩
    · go_enter Try.func34, Try.ntmps34
      go_wp2
      go_ret
      exact ⟨by unfold meetB; simp <;> omega, hbb⟩

theorem below_grow (w : World) (n : Nat) (os : Array Obj) : Below w.heap.size w (grow (w.drewN n) os) :=
  ⟨rfl, rfl, rfl, by show _ ≤ (w.heap ++ os).size; simp, fun k hk => by show (w.heap ++ os)[k]? = _; rw [Array.getElem?_append_left hk]⟩

theorem mixedT : Try.prog.follows .mixedOrders = true := by kernel_rfl

end Go.Proofs.Ytkkcpofaiocjpaa
