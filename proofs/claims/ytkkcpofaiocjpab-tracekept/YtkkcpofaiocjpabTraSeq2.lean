/- The index asked: its iterator, what collects, what sorts. -/
import Derived.Test.YtkkcpofaiocjpabTraSeq
import Derived.Test.YtkkcpofaiocjpabTraSortS
set_option maxRecDepth 100000
namespace Go.Proofs.Ytkkcpofaiocjpab
open Go.RowKit Go.Shelf
attribute [local go_sem] Oper.semAt_some

def Tells (H : List Int) (k : Nat) (xs : Array Value) : Prop := ∃ x, H[k]? = some x ∧ xs = #[.int .u32 x]

set_option maxHeartbeats 2000000 in
theorem each_iter (n g m cap : Nat) (F : Nat → Ru) (tt : Int) (hm : m ≤ 100000) (hcap : m ≤ cap) (htop : Tops F 0 m) (hup : ∀ i j, i ≤ j → j < m → (F i).frm ≤ (F j).frm) :
    IterM n Try.prog 15 #[quV (some ⟨g, 0, none⟩) m cap tt] #[] (hitsF F tt 0 m).length (fun W => RuF W g m F) (Tells (hitsF F tt 0 m)) := by
  intro l J W1 hJI hJB hJA hJD hY h0
  have hJ1 : J 0 [] (W1.alloc (.cells #[.slice (some ⟨g, 0, none⟩) m cap, .int .i64 tt] 52)) := hJB _ _ _ _ h0 (below_alloc _ _)
  have HU : Hid (∀ r, CallsIn Fence.wide r Try.prog 23 #[quV (some ⟨g, 0, none⟩) m cap tt, .slice (some ⟨g, 0, none⟩) m cap, .func (.yield l) #[] #[]] (W1.alloc (.cells #[.slice (some ⟨g, 0, none⟩) m cap, .int .i64 tt] 52)) fun e W' => e = .returned (.bool true) ∧ J (0 + (hitsF F tt 0 m).length) [] W') := fun r =>
    under_in l g m F tt (some ⟨g, 0, none⟩) m cap hm (hitsF F tt 0 m) J hJI hJB hJA hJD (fun r k p W x hx hJ => hY r k p W _ (List.getElem?_eq_some_iff.1 hx).1 hJ ⟨x, hx, rfl⟩) hup m 0 0 cap r 0 [] _ rfl (by omega) hcap htop hJ1 (fun i x h => by rw [Nat.zero_add]; exact h)
  clear hJI hJB hJA hJD hY h0 hJ1 hup htop
  have hwf : ∀ f, Fence.wide.fn f := fun _ => trivial
  have hwd : Fence.wide.depth = none := rfl
  refine callsIn_of_wp Try.func15 rfl trivial ?_ rfl
  simp only [Try.ntmps15, List.size_toArray, List.length_cons, List.length_nil, Nat.reduceAdd, Nat.reduceSub, Array.replicate_succ, Array.replicate_zero, List.push_toArray, List.append_toArray, List.nil_append, List.cons_append]
  gi_wp2_with (gi_at_call 23; refine (HU.out _).mono ?_; rintro e W2 ⟨rfl, hJ2⟩; have HJ2 : Hid (J (0 + (hitsF F tt 0 m).length) [] W2) := hJ2; clear hJ2)
  go_end0
  exact ⟨⟨_, rfl⟩, by have := HJ2.out; rw [Nat.zero_add] at this; exact this⟩

theorem under_nil (l : Nat) (r : Nat) (tt : Int) (W : World) : CallsIn Fence.wide r Try.prog 23 #[quV none 0 0 tt, .slice none 0 0, .func (.yield l) #[] #[]] W fun e W' => e = .returned (.bool true) ∧ Below W.heap.size W W' := by
  refine callsIn_of_wp Try.func23 rfl trivial ?_ rfl
  simp only [Try.ntmps23, List.size_toArray, List.length_cons, List.length_nil, Nat.reduceAdd, Nat.reduceSub, Array.replicate_succ, Array.replicate_zero, List.push_toArray, List.append_toArray, List.nil_append, List.cons_append]
  gi_wp2
  go_ret
  exact ⟨rfl, below_alloc _ _⟩

theorem each_nil (n : Nat) (tt : Int) (I : World → Prop) : IterM n Try.prog 15 #[quV none 0 0 tt] #[] 0 I (Tells []) := by
  intro l J W1 hJI hJB hJA hJD hY h0
  have HU : Hid (∀ r, CallsIn Fence.wide r Try.prog 23 #[quV none 0 0 tt, .slice none 0 0, .func (.yield l) #[] #[]] (W1.alloc (.cells #[.slice none 0 0, .int .i64 tt] 52)) fun e W' => e = .returned (.bool true) ∧ J 0 [] W') := fun r =>
    (under_nil l r tt _).mono fun e W' h => ⟨h.1, hJB _ _ _ _ (hJB _ _ _ _ h0 (below_alloc _ _)) h.2⟩
  clear hJI hJB hJA hJD hY h0
  have hwf : ∀ f, Fence.wide.fn f := fun _ => trivial
  have hwd : Fence.wide.depth = none := rfl
  refine callsIn_of_wp Try.func15 rfl trivial ?_ rfl
  simp only [Try.ntmps15, List.size_toArray, List.length_cons, List.length_nil, Nat.reduceAdd, Nat.reduceSub, Array.replicate_succ, Array.replicate_zero, List.push_toArray, List.append_toArray, List.nil_append, List.cons_append]
  gi_wp2_with (gi_at_call 23; refine (HU.out _).mono ?_; rintro e W2 ⟨rfl, hJ2⟩; have HJ2 : Hid (J 0 [] W2) := hJ2; clear hJ2)
  go_end0
  exact ⟨⟨_, rfl⟩, HJ2.out⟩

set_option maxHeartbeats 4000000 in
theorem appendSeq_in (r : Nat) (w : World) (qv : Value) (H : List Int) (I : World → Prop) (hI : ∀ W, Below w.heap.size w W → I W) (hseq : ∀ n, IterM n Try.prog 15 #[qv] #[] H.length I (Tells H)) (hH : H.length ≤ 1000) :
    CallsIn Fence.wide r Try.prog 29 #[.slice none 0 0, .func (.func 15) #[qv] #[]] w fun e w' => ∃ v, e = .returned v ∧ URow w' w.heap.size v H ∧ Below w.heap.size w w' := by
  refine callsIn_of_wp_marks Try.func29 rfl trivial ?_ rfl
  simp only [Try.ntmps29, List.size_toArray, List.length_cons, List.length_nil, Nat.reduceAdd, Nat.reduceSub, Array.replicate_succ, Array.replicate_zero, List.push_toArray, List.append_toArray, List.nil_append, List.cons_append]
  gi_wp2
  obtain ⟨W0, hW0⟩ : ∃ W0, W0 = w.alloc (.cells #[.slice none 0 0] 27) := ⟨_, rfl⟩
  rw [← hW0]
  have hsz0 : W0.heap.size = w.heap.size + 1 := by rw [hW0]; simp
  have hB0 : Below w.heap.size w W0 := by rw [hW0]; exact below_alloc _ _
  have hc0 : W0.cell? ⟨w.heap.size, 0, none⟩ = some (.slice none 0 0) := by rw [hW0]; simp
  have hf0 : W0.frozen? ⟨w.heap.size, 0, none⟩ = false := by rw [hW0]; simp
  have H0 : Hid (∀ W, Below W0.heap.size W0 W → w.heap.size + 3 ≤ W.heap.size → SqI w H 0 [] W) := fun W hB hsz =>
    ⟨.slice none 0 0, cell_later hB hc0, (frozen_same (a := ⟨w.heap.size, 0, none⟩) (hB.block _ (by show w.heap.size < _; omega))).trans hf0, World.ownsRow_nil _ _ _ _, hB0.trans (hB.mono (by omega)), hsz, fun b o h => (by cases h)⟩
  have HI : Hid (∀ W, Below w.heap.size w W → I W) := hI
  clear hW0 hB0 hc0 hf0 hI
  refine range_mine (N := H.length) (gf := 15) (la := #[qv]) (lb := #[]) rfl (enters_of Try.func15 (by kernel_rfl) rfl) (SqI w H) I (Tells H) (hseq _) ?hps (fun k p W h => HI.out W (by obtain ⟨v, -, -, -, h4, -⟩ := h; exact h4)) (fun k p W W' h hb => h.later hb) (fun k p W vs T h => h.alloc vs T) (fun k b o p W h => h.drop) ?hSp ?h0
    (fun xs => { tmps := #[.slice none 0 0, .func (.func 15) #[qv] #[], .pointer (some ⟨w.heap.size, 0, none⟩), undef, .slice none 0 0, xs.getD 0 undef, .func (.func 15) #[qv] #[], xs.getD 0 undef, undef, undef, undef, undef, undef], defers := [] }) ?assign ?body ?done
  case hps =>
    rintro k xs ⟨x, -, rfl⟩
    rfl
  case hSp =>
    intro k p W r r' h hL
    exact h.put _ (by omega) (by omega) _
  case h0 =>
    intro r
    exact H0.out _ ((below_alloc W0 _).alloc (by simp) _) (by simp; omega)
  case assign =>
    intro l xs W K hxs hK
    obtain ⟨x, rfl⟩ : ∃ x, xs = #[x] := by
      have : xs.size = 1 := hxs
      match xs, this with
      | ⟨[x]⟩, _ => exact ⟨x, rfl⟩
    gi_wp2
    exact hK
  case done =>
    intro W hS hD
    obtain ⟨v, h1, h2, h3, h4, h5, -⟩ := id hS
    have HS : Hid (SqI w H H.length [] W) := hS
    have HD : Hid (W.heap[W0.heap.size]? = some (.deferred (some []))) := hD
    clear hS hD h2 h3 h4 h5
    gi_wp2
    refine ⟨by simp, .inl ⟨_, _, rfl, run_takeDeferred HD.out, ?_⟩⟩
    obtain ⟨v2, g1, -, g3, g4, -⟩ := HS.out.put W0.heap.size (by omega) (by omega) (.deferred none)
    have hv : v2 = v := by
      have := (cell_same_block (a := ⟨w.heap.size, 0, none⟩) (World.putObj_heap_other (w := W) (r := W0.heap.size) (o := .deferred none) (by show w.heap.size ≠ _; omega))).symm.trans g1
      rw [h1] at this
      exact (Option.some.inj this).symm
    subst hv
    rw [List.take_length] at g3
    exact ⟨_, results_tmp rfl _ _ _, v2, rfl, ownsRow_low g3 (by omega), g4⟩
  case body =>
    rintro k p xs W rr hk hS ⟨x, hx, rfl⟩ hD hL
    obtain ⟨v, v', w', ⟨sa, sn, sc, rfl⟩, c1, hrun, c2, f2, hS', e1, e2⟩ := hS.step hH hx
    have HS' : Hid (SqI w H (k + 1) p (w'.setCell ⟨w.heap.size, 0, none⟩ (.slice sa sn sc))) := hS'
    have HE : Hid ((w'.setCell ⟨w.heap.size, 0, none⟩ (.slice sa sn sc)).heap[w.heap.size + 1]? = W.heap[w.heap.size + 1]? ∧ (w'.setCell ⟨w.heap.size, 0, none⟩ (.slice sa sn sc)).heap[w.heap.size + 2]? = W.heap[w.heap.size + 2]?) := ⟨e1, e2⟩
    have HZ : Hid (W0.heap.size = w.heap.size + 1) := hsz0
    clear hS hS' e1 e2 hD hL hx hsz0
    gi_wp2_with (gi_at_builtin; refine wplIn_append_run rfl _ _ 27 rfl _ _ rfl rfl hrun ?_)
    exact ⟨HS'.out, by rw [HZ.out]; exact HE.out.1, by rw [HZ.out]; exact HE.out.2⟩

end Go.Proofs.Ytkkcpofaiocjpab
