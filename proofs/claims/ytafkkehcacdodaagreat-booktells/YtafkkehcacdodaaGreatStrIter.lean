/- The sectors gone through one by one. -/
import Derived.Test.YtafkkehcacdodaaGreatStrRange
set_option maxRecDepth 100000
namespace Go.Proofs.YtafkkehcacdodaaGreat
open Go.RowKit Go.Shelf
attribute [local go_sem] Oper.semAt_some

set_option maxHeartbeats 1000000 in
theorem sectors_ok (w : World) (D : Nat) : Calls Tryz.prog 69 #[.pointer (some ⟨D, 0, none⟩)] w fun e w' => e = .returned (.func (.func 98) #[] #[.pointer (some ⟨w.heap.size, 0, none⟩)]) ∧ w' = w.alloc (.cells #[.pointer (some ⟨D, 0, none⟩)] 25) := by
  go_enter Tryz.func69, Tryz.ntmps69
  go_wp2
  go_ret
  exact ⟨rfl, rfl⟩

/-- What is handed over in the k-th round. -/
def HandK (I : Nat → World → Prop) (s : St) (k : Nat) (W : World) (xs : Array Value) : Prop :=
  ∃ Wp g, I k Wp ∧ Below Wp.heap.size Wp W ∧ Wp.heap.size ≤ g ∧ g < W.heap.size ∧ xs = #[.int .i64 k, .slice (some ⟨g, 0, none⟩) 64 64] ∧ Bts W (.slice (some ⟨g, 0, none⟩) 64 64) (sec s.now k)

set_option maxHeartbeats 2000000 in
theorem sectors_iter (n : Nat) (tag : Nat → Nat) (base o : Nat) (s : St) (p : PL) (Bx : Nat) (I : Nat → World → Prop) (hI : ∀ k W, I k W → PD W tag base o s p ∧ W.cell? ⟨Bx, 0, none⟩ = some (.pointer (some ⟨p.D, 0, none⟩))) :
    Iter n Tryz.prog 98 #[.pointer (some ⟨Bx, 0, none⟩)] s.n I (HandK I s) := by
  intro l J W1 hA hJI hY h0
  have hP0 := hI 0 W1 (hJI 0 W1 h0)
  have hn2 := hP0.1.ok.n2
  have hc0 := hP0.2
  have HSz := size_ok W1 tag base o s p hP0.1
  have hln := hP0.1.ok.nl
  have hlb := hP0.1.ok.nb
  clear hP0
  have hwf : ∀ f, Fence.wide.fn f := fun _ => trivial
  have hwd : Fence.wide.depth = none := rfl
  refine callsIn_of_wp Tryz.func98 rfl trivial ?_ rfl
  simp only [Tryz.ntmps98, List.size_toArray, List.length_cons, List.length_nil, Nat.reduceAdd, Nat.reduceSub, Array.replicate_succ, Array.replicate_zero, List.push_toArray, List.append_toArray, List.nil_append, List.cons_append]
  gi_wp2_with (gi_at_call 62; refine (callsIn_wide.2 HSz).mono ?_; rintro e w' ⟨rfl, hx⟩; have HX : Hid (w' = W1) := hx; clear hx; rw [HX.out])
  gi_loopw [8] (fun i wr => ∃ k : Nat, k ≤ s.n ∧ i = .int .i64 k ∧ J k wr) (fun i _ => s.n - (intOf i).toNat)
  case atStart => exact ⟨0, Nat.zero_le _, rfl, h0⟩
  case round =>
    obtain ⟨k, hk, rfl, hJ⟩ := hrel
    obtain ⟨hP, hc⟩ := hI k wr (hJI k wr hJ)
    by_cases hlt : k < s.n
    · have hltI : (k : Int) < (s.n : Int) := by omega
      have HR := read_ok wr tag base o s p hP k hlt
      have hB := below_alloc wr (.cells (bytesV (sec s.now k)).toArray 103)
      obtain ⟨fn, tmps, assign, body, hy, hR⟩ := hY k _ #[.int .i64 k, .slice (some ⟨wr.heap.size, 0, none⟩) 64 64] hlt (hA k wr _ hJ hB) ⟨wr, wr.heap.size, hJI k wr hJ, hB, Nat.le_refl _, by simp, rfl, read_bts wr _ _ _ (Below.refl _ _) (sec_len hln hlt) (sec_bytes hlb k)⟩
      obtain ⟨W2, hW2⟩ : ∃ W2, W2 = wr.alloc (.cells (bytesV (sec s.now k)).toArray 103) := ⟨_, rfl⟩
      rw [← hW2] at hy hR HR
      clear hP hB hW2 hJ HSz
      gi_wp2_with (gi_at_call 63; refine (callsIn_wide.2 HR).mono ?_; rintro e w' ⟨rfl, hx⟩; have HX2 : Hid (w' = W2) := hx; clear hx; rw [HX2.out])
      refine hR.mono ?_
      rintro e W3 ⟨rfl, hJ3⟩
      gi_wp2
      go_roundw
      case rel => exact ⟨k + 1, by omega, by go_num, hJ3⟩
      case measure => simp [intOf]; omega
    · have hke : k = s.n := by omega
      subst hke
      clear hP HSz
      gi_wp2
      go_end0
      exact ⟨⟨_, rfl⟩, hJ⟩

end Go.Proofs.YtafkkehcacdodaaGreat
