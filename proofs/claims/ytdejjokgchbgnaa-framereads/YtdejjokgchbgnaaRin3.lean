/- The contracts of in, word and Sum of two parts, in the document's own answer for chapters 3 to 5. -/
import Derived.Test.YtdejjokgchbgnaaRow
import Derived.Test.YtdejjokgchbgnaaRsum
set_option maxRecDepth 100000
namespace Go.Proofs.Ytdejjokgchbgnaa
open Go.RowKit

theorem rin_any (x m : Int) (w : World) : Calls Try.prog 37 #[.int .i64 x, .int .i64 m] w fun e w' => e = .returned (.bool (inBb x m)) ∧ w' = w := by
  by_cases h0 : 0 ≤ x
  · by_cases h1 : x ≤ m
    · have E : Hid (inBb x m = true) := decide_eq_true (show inB x m from ⟨h0, h1⟩)
      go_enter Try.func37, Try.ntmps37
      go_wp2
      go_ret
      exact ⟨ret_bool E.out.symm, rfl⟩
    · have E : Hid (inBb x m = false) := decide_eq_false (fun h : inB x m => h1 h.2)
      go_enter Try.func37, Try.ntmps37
      go_wp2
      go_ret
      exact ⟨ret_bool E.out.symm, rfl⟩
  · have E : Hid (inBb x m = false) := decide_eq_false (fun h : inB x m => h0 h.1)
    go_enter Try.func37, Try.ntmps37
    go_wp2
    go_ret
    exact ⟨ret_bool E.out.symm, rfl⟩

set_option maxHeartbeats 1000000 in
theorem rword_any (b off len cap : Nat) (l : List Int) (q : Int) (k : Nat) (w : World) (hA : At w b off len cap l) (hq : q = (k : Int)) (hk : k + 2 ≤ len) (hl : len ≤ 140737488351232) :
    Calls Try.prog 47 #[.slice (some ⟨b, off, none⟩) len cap, .int .i64 q] w fun e w' => e = .returned (.int .i64 (w2 l k)) ∧ ∃ nq, w' = w.drewN nq := by
  subst hq
  have hL := hA.len
  have c0 := hA.sees k (by omega)
  obtain ⟨k1, hk1⟩ : ∃ k1, k + 1 = k1 := ⟨_, rfl⟩
  have c1 := hA.sees k1 (by omega)
  have b0 := getD_byte l hA.bytes k
  have b1 := getD_byte l hA.bytes k1
  have HW : Hid (w2 l k = l.getD k 0 * 256 + l.getD k1 0) := by show _ = _; rw [← hk1]; rfl
  generalize l.getD k 0 = x at *
  generalize l.getD k1 0 = y at *
  obtain ⟨x0, x1⟩ := b0
  obtain ⟨y0, y1⟩ := b1
  have hor : bits .or .i64 (x * 256) y = x * 256 + y := or_i64 8 (x * 256) y (by omega) (by omega) (by omega) y0 (by omega) (by omega)
  have i0 : (k : Int) < (len : Int) := by omega
  have i1 : (k1 : Int) < (len : Int) := by omega
  have u1 : IntKind.i64.wrap ((k : Int) + 1) = (k1 : Int) := by rw [i64_id _ (by omega) (by omega)]; omega
  have u2 : IntKind.i64.wrap x = x := i64_id _ (by omega) (by omega)
  have u3 : IntKind.i64.wrap (x * 256) = x * 256 := i64_id _ (by omega) (by omega)
  have u4 : IntKind.i64.wrap y = y := i64_id _ (by omega) (by omega)
  clear hA hL hk1
  go_enter Try.func47, Try.ntmps47
  go_wp2
  go_quiet (fail)
  go_wp2
  go_ret
  exact ⟨by rw [HW.out]; rfl, _, rfl⟩

theorem rpts2 {w : World} {v1 v2 : Value} {l1 l2 : List Int} (t : TypeId) (h1 : Bts w v1 l1) (h2 : Bts w v2 l2) : Pts (w.alloc (.cells #[v1, v2] t)) w.heap.size 0 [l1, l2] := by
  have b := below_alloc w (.cells #[v1, v2] t)
  intro i hi
  have : i = 0 ∨ i = 1 := by simp at hi; omega
  rcases this with rfl | rfl
  · exact ⟨v1, by rw [World.cell?_alloc_mark w #[v1, v2] t (0, 0)]; rfl, h1.later b⟩
  · exact ⟨v2, by rw [World.cell?_alloc_mark w #[v1, v2] t (0, 0)]; rfl, h2.later b⟩

theorem rsum2 (w : World) (N : Nat) (v1 v2 : Value) (l1 l2 : List Int) (t : TypeId) (hN : N = w.heap.size) (h1 : Bts w v1 l1) (h2 : Bts w v2 l2) (hbig : l1.length + l2.length ≤ 1099511627776) :
    Calls Try.prog 38 #[.slice (some ⟨N, 0, none⟩) 2 2] (w.alloc (.cells #[v1, v2] t)) fun e w' => e = .returned (.int .i64 (fold16 (ws (l1 ++ l2)))) ∧ w' = w.alloc (.cells #[v1, v2] t) := by
  subst hN
  have b1 : isBytes l1 := by obtain ⟨a, cap, b, off, h1, h2, h3, h4, h5, h6⟩ := h1; exact h4
  have b2 : isBytes l2 := by obtain ⟨a, cap, b, off, h1, h2, h3, h4, h5, h6⟩ := h2; exact h4
  have := rsum_any (some ⟨w.heap.size, 0, none⟩) w.heap.size 0 2 [l1, l2] (w.alloc (.cells #[v1, v2] t)) (by simp) (by decide) (.inl rfl) (rpts2 t h1 h2) (by simpa using hbig) (by simpa using isBytes_append b1 b2)
  simpa using this
end Go.Proofs.Ytdejjokgchbgnaa
