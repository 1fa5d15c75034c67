/- The contracts of in, word and Sum of two parts, in the document's own answer for chapters 3 to 5. -/
import Derived.Test.YtejknbkleinjbaaRow
import Derived.Test.YtejknbkleinjbaaRsum
namespace Go.Proofs.Ytejknbkleinjbaa
open Go.RowKit

theorem rin_any (x m : Int) (w : World) : Calls Try.prog 29 #[.int .i64 x, .int .i64 m] w fun e w' => e = .returned (.bool (inBb x m)) ∧ w' = w := by
  by_cases h0 : 0 ≤ x
  · by_cases h1 : x ≤ m
    · have E : Hid (inBb x m = true) := decide_eq_true (show inB x m from ⟨h0, h1⟩)
      go_enter Try.func29, Try.ntmps29
      go_wp2
      go_ret
      exact ⟨ret_bool E.out.symm, rfl⟩
    · have E : Hid (inBb x m = false) := decide_eq_false (fun h : inB x m => h1 h.2)
      go_enter Try.func29, Try.ntmps29
      go_wp2
      go_ret
      exact ⟨ret_bool E.out.symm, rfl⟩
  · have E : Hid (inBb x m = false) := decide_eq_false (fun h : inB x m => h0 h.1)
    go_enter Try.func29, Try.ntmps29
    go_wp2
    go_ret
    exact ⟨ret_bool E.out.symm, rfl⟩

theorem rpts2 {w : World} {v1 v2 : Value} {l1 l2 : List Int} (t : TypeId) (h1 : Bts w v1 l1) (h2 : Bts w v2 l2) : Pts (w.alloc (.cells #[v1, v2] t)) w.heap.size 0 [l1, l2] := by
  have b := below_alloc w (.cells #[v1, v2] t)
  intro i hi
  have : i = 0 ∨ i = 1 := by simp at hi; omega
  rcases this with rfl | rfl
  · exact ⟨v1, by rw [World.cell?_alloc_mark w #[v1, v2] t (0, 0)]; rfl, h1.later b⟩
  · exact ⟨v2, by rw [World.cell?_alloc_mark w #[v1, v2] t (0, 0)]; rfl, h2.later b⟩

theorem rsum2 (w : World) (N : Nat) (v1 v2 : Value) (l1 l2 : List Int) (t : TypeId) (hN : N = w.heap.size) (h1 : Bts w v1 l1) (h2 : Bts w v2 l2) (hbig : l1.length + l2.length ≤ 1099511627776) :
    Calls Try.prog 33 #[.slice (some ⟨N, 0, none⟩) 2 2] (w.alloc (.cells #[v1, v2] t)) fun e w' => e = .returned (.int .i64 (fold16 (ws (l1 ++ l2)))) ∧ w' = w.alloc (.cells #[v1, v2] t) := by
  subst hN
  have b1 : isBytes l1 := by obtain ⟨a, cap, b, off, h1, h2, h3, h4, h5, h6⟩ := h1; exact h4
  have b2 : isBytes l2 := by obtain ⟨a, cap, b, off, h1, h2, h3, h4, h5, h6⟩ := h2; exact h4
  have := rsum_any (some ⟨w.heap.size, 0, none⟩) w.heap.size 0 2 [l1, l2] (w.alloc (.cells #[v1, v2] t)) (by simp) (by decide) (.inl rfl) (rpts2 t h1 h2) (by simpa using hbig) (by simpa using isBytes_append b1 b2)
  simpa using this
end Go.Proofs.Ytejknbkleinjbaa
