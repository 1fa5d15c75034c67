/- The contract of Build. -/
import Derived.Test.YtkclbmhhlpdcnaaDoorHeader
import Derived.Test.YtkclbmhhlpdcnaaDoorExamine
import Derived.Test.YtkclbmhhlpdcnaaDoorCatch
set_option maxRecDepth 100000
namespace Go.Proofs.YtkclbmhhlpdcnaaDoor
open Go.RowKit
attribute [local go_sem ↓] Go.wp_at_zero Go.wp_at_succ

set_option maxHeartbeats 4000000 in
theorem build_no (p : Dg) (ao ab : Option Addr) (co cb : Nat) (w : World) (ho : p.opts.length ≤ 140737488351232) (hb : p.body.length ≤ 140737488351232) (h : ¬ buildE p = 0) :
    Calls Tryd.prog 5 #[ipV p (.slice ao p.opts.length co) (.slice ab p.body.length cb)] w fun e w' =>
      e = .returned (.tuple #[.slice none 0 0, .int .i64 (buildE p)]) ∧ Below w.heap.size w w' := by
  have hmf : ∀ (fn : Fn) (first cap : Array Value) (w : World), (Instr.makeFunc fn first cap).run Tryd.prog w = .ok (.func fn first cap) w := fun _ _ _ _ => rfl
  go_enter_defers Tryd.func5, Tryd.ntmps5
  go_wp2_with fail
  refine (examine_no p ao ab co cb _ ho hb h).mono ?_
  rintro e w1 ⟨rfl, hb1⟩
  go_wp2_with fail
  obtain ⟨c1, f1, c2, f2⟩ := two_cells hb1
  have c1 := c1 0 _ rfl
  have f1 := f1 0
  have c2 := c2 0 _ rfl
  have f2 := f2 0
  have hbase : Below w.heap.size w w1 := below_trans (below_trans (below_alloc _ _) (below_trans (below_alloc _ _) (below_alloc _ _))) hb1
  rw [show (w.alloc _).heap.size = w.heap.size + 1 by simp] at c1 f1 c2 f2
  refine leaves_cons (f := 12) (args := #[.pointer (some ⟨w.heap.size + 1, 0, none⟩), .pointer (some ⟨w.heap.size + 1 + 1, 0, none⟩)]) (by simp) (by simp [go_sem]) ?_
  refine (bcatch_panicking (w.heap.size + 1) (w.heap.size + 1 + 1) w.heap.size (buildE p) 0 _ _ c1 f1 c2 f2 (by omega) (by omega) (by omega)).mono ?_
  rintro e u' w2 ⟨rfl, rfl, d1, d2, hb2⟩
  simp [Leaves, settle, results, Tryd.results5, go_sem, d1, d2]
  exact hbase.trans hb2

/-- The cells of a datagram that was boxed. -/
theorem boxes {w w' : World} {p : Dg} {vo vb : Value} {t : TypeId} (hb : Below (w.alloc (.cells (ipC p vo vb) t)).heap.size (w.alloc (.cells (ipC p vo vb) t)) w') :
    w'.cell? ⟨w.heap.size, 0, none⟩ = some (.int .i64 p.tos) ∧ w'.cell? ⟨w.heap.size, 1, none⟩ = some (.int .i64 p.id) ∧ w'.cell? ⟨w.heap.size, 2, none⟩ = some (.bool p.df) ∧ w'.cell? ⟨w.heap.size, 3, none⟩ = some (.bool p.mf) ∧
    w'.cell? ⟨w.heap.size, 4, none⟩ = some (.int .i64 p.off) ∧ w'.cell? ⟨w.heap.size, 5, none⟩ = some (.int .i64 p.ttl) ∧ w'.cell? ⟨w.heap.size, 6, none⟩ = some (.int .i64 p.proto) ∧ w'.cell? ⟨w.heap.size, 7, none⟩ = some (.int .u32 p.src) ∧
    w'.cell? ⟨w.heap.size, 8, none⟩ = some (.int .u32 p.dst) ∧ w'.cell? ⟨w.heap.size, 9, none⟩ = some vo ∧ w'.cell? ⟨w.heap.size, 10, none⟩ = some vb :=
  ⟨box_cell hb 0 _ rfl, box_cell hb 1 _ rfl, box_cell hb 2 _ rfl, box_cell hb 3 _ rfl, box_cell hb 4 _ rfl, box_cell hb 5 _ rfl, box_cell hb 6 _ rfl, box_cell hb 7 _ rfl, box_cell hb 8 _ rfl, box_cell hb 9 _ rfl, box_cell hb 10 _ rfl⟩

theorem join_pair (w : World) (N : Nat) (v1 v2 : Value) (l1 l2 : List Int) (n1 : Nat) (t : TypeId) (hN : N = w.heap.size) (hn : l1.length = n1) (h1 : Bts w v1 l1) (h2 : Bts w v2 l2) (hlen : n1 + l2.length ≤ 140737488355328) :
    Calls Tryd.prog 14 #[.slice (some ⟨N, 0, none⟩) 2 2, .slice none 0 0] (w.alloc (.cells #[v1, v2] t)) fun e w' =>
      ∃ g cap, e = .returned (.slice (some ⟨g, 0, none⟩) (n1 + l2.length) cap) ∧ Fresh w' w.heap.size (.slice (some ⟨g, 0, none⟩) (n1 + l2.length) cap) (l1 ++ l2) ∧ w.heap.size ≤ g ∧ Below w.heap.size w w' := by
  subst hN hn
  have b1 := below_alloc w (.cells #[v1, v2] t)
  refine (join2 _ w.heap.size v1 v2 l1 l2 ?_ ?_ (h1.later b1) (h2.later b1) hlen).mono ?_
  · rw [World.cell?_alloc_mark w #[v1, v2] t (0, 0) 0]; rfl
  · rw [World.cell?_alloc_mark w #[v1, v2] t (0, 0) 1]; rfl
  · rintro e w' ⟨v, rfl, hF, hbel⟩
    have hF := hF.low b1.size
    obtain ⟨g, cap, rfl, h2, r⟩ := hF
    rw [List.length_append] at r ⊢
    exact ⟨g, cap, rfl, ⟨g, cap, by rw [List.length_append], h2, by rw [List.length_append]; exact r⟩, h2, below_trans b1 hbel⟩

theorem Fresh.setCell {w : World} {base g len cap : Nat} {l : List Int} {q : Addr} {x : Value} (h : Fresh w base (.slice (some ⟨g, 0, none⟩) len cap) l) (hq : q.block ≠ g) : Fresh (w.setCell q x) base (.slice (some ⟨g, 0, none⟩) len cap) l := by
  obtain ⟨g', cap', hv, h2, h3, h4, h5, h6, h7⟩ := h
  simp only [Value.slice.injEq, Option.some.injEq, Addr.mk.injEq, and_true] at hv
  obtain ⟨rfl, rfl, rfl⟩ := hv
  have hblk : (w.setCell q x).heap[g]? = w.heap[g]? := Below.heap_setCell w q x g (Ne.symm hq)
  refine ⟨g, cap, rfl, h2, h3, h4, h5, ?_, ?_⟩
  · intro i hi
    rw [World.cell?_of_block (w := w) hblk]
    exact h6 i hi
  · intro i hi
    rw [World.frozen?_of_block (w := w) hblk]
    exact h7 i hi

theorem head_bts {w : World} {G : Nat} {p : Dg} {c : Int} (h : Sees w G 0 (headB p c)) (hb : isBytes p.opts) (hl : p.opts.length ≤ 2028) : Bts w (.slice (some ⟨G, 0, none⟩) (20 + p.opts.length) (20 + p.opts.length)) (headB p c) :=
  ⟨_, 20 + p.opts.length, G, 0, by rw [head_length], by rw [head_length]; exact Nat.le_refl _, by unfold maxLen; omega, head_bytes p c hb, .inl rfl, h⟩

theorem res_later {w1 w' : World} {n : Nat} {a b : Value} (h : w1.cell? ⟨n + 1, 0, none⟩ = some a ∧ w1.frozen? ⟨n + 1, 0, none⟩ = false ∧ w1.cell? ⟨n + 1 + 1, 0, none⟩ = some b ∧ w1.frozen? ⟨n + 1 + 1, 0, none⟩ = false)
    (hsz : n + 1 + 1 + 1 ≤ w1.heap.size) (hb : Below w1.heap.size w1 w') : w'.cell? ⟨n + 1, 0, none⟩ = some a ∧ w'.frozen? ⟨n + 1, 0, none⟩ = false ∧ w'.cell? ⟨n + 1 + 1, 0, none⟩ = some b ∧ w'.frozen? ⟨n + 1 + 1, 0, none⟩ = false :=
  ⟨cell_later hb h.1, by rw [hb.frozen (by show n + 1 < _; omega)]; exact h.2.1, cell_later hb h.2.2.1, by rw [hb.frozen (by show n + 1 + 1 < _; omega)]; exact h.2.2.2⟩

set_option maxHeartbeats 8000000 in
theorem build_ok (p : Dg) (ao ab : Option Addr) (co cb : Nat) (w : World) (k : p.Ok) (h : buildE p = 0) (hO : Bts w (.slice ao p.opts.length co) p.opts) (hB : Bts w (.slice ab p.body.length cb) p.body) :
    Calls Tryd.prog 5 #[ipV p (.slice ao p.opts.length co) (.slice ab p.body.length cb)] w fun e w' =>
      ∃ v, e = .returned (.tuple #[v, .int .i64 0]) ∧ Fresh w' w.heap.size v (built p) ∧ Below w.heap.size w w' := by
  have hmf : ∀ (fn : Fn) (first cap : Array Value) (w : World), (Instr.makeFunc fn first cap).run Tryd.prog w = .ok (.func fn first cap) w := fun _ _ _ _ => rfl
  have f : Fits p := fits_of p h
  have HL : Hid (p.opts.length + p.body.length ≤ 2028) := by show _ ≤ _; have := f.all; unfold totalI at this; omega
  have HLB : Hid (isBytes p.opts) := k.opts
  have Hh : Hid (buildE p = 0) := h
  clear h
  go_enter_defers Tryd.func5, Tryd.ntmps5
  go_wp2_with fail
  refine (examine_ok p ao ab co cb _ (by have := HL.out; omega) (by have := HL.out; omega) Hh.out).mono ?_
  rintro e w1 ⟨rfl, hb1⟩
  go_wp2_with fail
  obtain ⟨q1, q2, q3, q4⟩ := two_cells hb1
  have c1 := q1 0 _ rfl
  have f1 := q2 0
  have c2 := q3 0 _ rfl
  have f2 := q4 0
  clear q1 q2 q3 q4
  have hbase : Below w.heap.size w w1 := below_trans (below_trans (below_alloc _ _) (below_trans (below_alloc _ _) (below_alloc _ _))) hb1
  have hbox := below_trans (below_trans (below_alloc _ _) (below_alloc _ _)) hb1
  have hsz := hb1.size
  simp only [World.size_alloc] at hsz c1 f1 c2 f2
  obtain ⟨d0, d1, d2, d3, d4, d5, d6, d7, d8, d9, d10⟩ := boxes hbox
  have hO1 := hO.later hbase
  have hB1 := hB.later hbase
  have HC1 : Hid (w1.cell? ⟨w.heap.size + 1, 0, none⟩ = some (.slice none 0 0) ∧ w1.frozen? ⟨w.heap.size + 1, 0, none⟩ = false ∧ w1.cell? ⟨w.heap.size + 1 + 1, 0, none⟩ = some (.int .i64 0) ∧ w1.frozen? ⟨w.heap.size + 1 + 1, 0, none⟩ = false) := ⟨c1, f1, c2, f2⟩
  clear hb1 c1 f1 c2 f2 hO hB
  have hn1 : ¬ (w.heap.size = w.heap.size + 1 + 1) := by omega
  have hn2 : ¬ (w.heap.size + 1 + 1 = w.heap.size) := by omega
  go_region_held3 (fun w' => w'.cell? ⟨w.heap.size, 0, none⟩ = some (.int .i64 p.tos) ∧ w'.cell? ⟨w.heap.size, 1, none⟩ = some (.int .i64 p.id) ∧ w'.cell? ⟨w.heap.size, 2, none⟩ = some (.bool p.df) ∧ w'.cell? ⟨w.heap.size, 3, none⟩ = some (.bool p.mf) ∧ w'.cell? ⟨w.heap.size, 4, none⟩ = some (.int .i64 p.off) ∧ w'.cell? ⟨w.heap.size, 5, none⟩ = some (.int .i64 p.ttl) ∧ w'.cell? ⟨w.heap.size, 6, none⟩ = some (.int .i64 p.proto) ∧ w'.cell? ⟨w.heap.size, 7, none⟩ = some (.int .u32 p.src) ∧ w'.cell? ⟨w.heap.size, 8, none⟩ = some (.int .u32 p.dst) ∧ w'.cell? ⟨w.heap.size, 9, none⟩ = some (.slice ao p.opts.length co) ∧ w'.cell? ⟨w.heap.size, 10, none⟩ = some (.slice ab p.body.length cb)) (first | go_keep | (exact boxes (by assumption)) | (exact boxes (below_trans (by assumption) (below_alloc _ _))))
    (first
      | (go_at_call 15; refine (header_any p ao ab co cb _ f k (by exact hO1)).mono ?_; rintro e w2 ⟨G, rfl, hsH, hb2'⟩; have hb2 : Below w1.heap.size w1 w2 := below_trans (below_drewN (Below.refl _ _) 1) hb2'; have hbx2 := below_trans hbox hb2)
      | (go_at_call 14; refine (join_pair w2 _ _ _ (headB p (checkI p)) p.body (20 + p.opts.length) 23 rfl (head_length p _) (head_bts hsH HLB.out (by have := HL.out; omega)) (hB1.later hb2) (by have := HL.out; omega)).mono ?_; rintro e w3 ⟨g, cap, rfl, hF, hg, hb3⟩; have hbx3 := below_trans hbx2 hb3; obtain ⟨c1, f1, c2, f2⟩ := res_later HC1.out hsz (below_trans hb2 hb3)))
  have hs2 := hb2.size
  have bel : Below w.heap.size w ((w3.setCell ⟨w.heap.size + 1, 0, none⟩ (.slice (some ⟨g, 0, none⟩) (20 + p.opts.length + p.body.length) cap)).setCell ⟨w.heap.size + 1 + 1, 0, none⟩ (.int .i64 0)) :=
    ((below_trans hbase (below_trans hb2 hb3)).setCell (by show _ ≤ w.heap.size + 1; omega) _).setCell (by show _ ≤ w.heap.size + 1 + 1; omega) _
  have hFF : Fresh ((w3.setCell ⟨w.heap.size + 1, 0, none⟩ (.slice (some ⟨g, 0, none⟩) (20 + p.opts.length + p.body.length) cap)).setCell ⟨w.heap.size + 1 + 1, 0, none⟩ (.int .i64 0)) w.heap.size (.slice (some ⟨g, 0, none⟩) (20 + p.opts.length + p.body.length) cap) (built p) :=
    ((hF.low (by omega)).setCell (by show w.heap.size + 1 ≠ g; omega)).setCell (by show w.heap.size + 1 + 1 ≠ g; omega)
  have e1 : ((w3.setCell ⟨w.heap.size + 1, 0, none⟩ (.slice (some ⟨g, 0, none⟩) (20 + p.opts.length + p.body.length) cap)).setCell ⟨w.heap.size + 1 + 1, 0, none⟩ (.int .i64 0)).cell? ⟨w.heap.size + 1, 0, none⟩ = some (.slice (some ⟨g, 0, none⟩) (20 + p.opts.length + p.body.length) cap) := by simp [go_sem, c1]
  have e2 : ((w3.setCell ⟨w.heap.size + 1, 0, none⟩ (.slice (some ⟨g, 0, none⟩) (20 + p.opts.length + p.body.length) cap)).setCell ⟨w.heap.size + 1 + 1, 0, none⟩ (.int .i64 0)).cell? ⟨w.heap.size + 1 + 1, 0, none⟩ = some (.int .i64 0) := by simp [go_sem, c2]
  generalize ((w3.setCell ⟨w.heap.size + 1, 0, none⟩ (.slice (some ⟨g, 0, none⟩) (20 + p.opts.length + p.body.length) cap)).setCell ⟨w.heap.size + 1 + 1, 0, none⟩ (.int .i64 0)) = w4 at *
  clear hF hsH hbx2 hbx3 hbox hb2 hb3 hbase hO1 hB1 HC1 c1 c2 f1 f2 d0 d1 d2 d3 d4 d5 d6 d7 d8 d9 d10 hn1 hn2
  go_wp2_with fail
  refine leaves_cons (f := 12) (args := #[.pointer (some ⟨w.heap.size + 1, 0, none⟩), .pointer (some ⟨w.heap.size + 1 + 1, 0, none⟩)]) (by simp) (by simp [go_sem]) ?_
  refine (bcatch_idle _ _ _).mono ?_
  rintro e u' w5 ⟨rfl, rfl, rfl⟩
  simp [Leaves, settle, results, Tryd.results5, go_sem, e1, e2]
  exact ⟨hFF, bel⟩
end Go.Proofs.YtkclbmhhlpdcnaaDoor
