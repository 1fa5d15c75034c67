/- Deeds one after the other: what holds of the book between them. -/
import Derived.Test.YtafkkehcacdodaaGreatBokRead
set_option maxRecDepth 100000
namespace Go.Proofs.YtafkkehcacdodaaGreat
open Go.RowKit Go.Shelf

/-- Between two deeds. -/
structure Run (w : World) (N D B k : Nat) (m : Bm) (G : List Tr) (wr : World) (tag : Nat → Nat) : Prop where
  bk : BK wr tag w.heap.size 1 D B m
  ok : m.Ok (2 + 4 * k)
  sv : SvF 0 m.s m.t G
  sf : SuFi G
  n : m.s.n = N
  outs : m.s.outs.length ≤ 500 * k
  recs : m.t.recs.length ≤ 1 + 2 * k
  L : m.L.length ≤ 1 + 2 * k
  G : G.length ≤ 1 + 2 * k
  z : ∀ j, j < w.heap.size → tag j = 0
  below : Below w.heap.size w wr

section
variable {w : World} {N D B k : Nat} {m : Bm} {G : List Tr} {wr wr' : World} {tag tag' : Nat → Nat}

theorem Run.new (h : Run w N D B k m G wr tag) (hb : Below wr.heap.size wr wr') : Run w N D B k m G wr' (clip tag wr.heap.size) :=
  ⟨h.bk.new hb, h.ok, h.sv, h.sf, h.n, h.outs, h.recs, h.L, h.G, fun j hj => by rw [clip_lt _ _ _ (Nat.lt_of_lt_of_le hj h.below.size)]; exact h.z j hj, h.below.trans (hb.mono h.below.size)⟩

theorem Run.next (h : Run w N D B k m G wr tag) : Run w N D B (k + 1) m G wr tag :=
  ⟨h.bk, h.ok.mono (by omega), h.sv, h.sf, h.n, by have := h.outs; omega, by have := h.recs; omega, by have := h.L; omega, by have := h.G; omega, h.z, h.below⟩

theorem Run.put (h : Run w N D B k m G wr tag) {e : En} (he : e.Ok) (hS : StepR tag tag' w.heap.size 1 3 wr wr') (hK : BK wr' tag' w.heap.size 1 D B (m.put e)) : Run w N D B (k + 1) (m.put e) (m.putG e G) wr' tag' := by
  obtain ⟨o1, o2⟩ := h.ok.put he
  obtain ⟨g1, _⟩ := putG_grew h.ok h.sf e
  exact ⟨hK, o1.mono (by omega), h.sv.bput h.ok e, g1.sf, o2.sn.trans h.n, by have := o2.outs; have := h.outs; omega, by have := o2.recs; have := h.recs; omega, by have := o2.L; have := h.L; omega, by have := g1.len; have := h.G; omega,
    fun j hj => by rw [hS.tags j (Nat.lt_of_lt_of_le hj h.below.size)]; exact h.z j hj, h.below.trans hS.below⟩

theorem Run.add (h : Run w N D B k m G wr tag) {l : List Int} (hl : isBytes l) (h5 : l.length ≤ 500) (hS : StepR tag tag' w.heap.size 1 1 wr wr') (hK : BK wr' tag' w.heap.size 1 D B ⟨m.s.add l, m.t, m.L, m.D⟩) : Run w N D B (k + 1) ⟨m.s.add l, m.t, m.L, m.D⟩ G wr' tag' := by
  have ho := h.outs
  exact ⟨hK, ⟨⟨h.ok.nb.ok.add hl, h.ok.nb.tk, Nat.le_trans h.ok.nb.ops (by omega), Nat.le_trans h.ok.nb.sin (by omega)⟩, h.ok.fL, h.ok.fD, h.ok.d1⟩, h.sv.add l, h.sf, h.n, by show (m.s.outs ++ l).length ≤ _; rw [List.length_append]; omega, by have := h.recs; show m.t.recs.length ≤ _; omega, by have := h.L; show m.L.length ≤ _; omega, by have := h.G; omega,
    fun j hj => by rw [hS.tags j (Nat.lt_of_lt_of_le hj h.below.size)]; exact h.z j hj, h.below.trans hS.below⟩

theorem run_grant (h : Run w N D B k m G wr tag) (hk : k ≤ 150) (now sub addr block : Int) (hok : En.Ok ⟨2, now, sub, addr, block⟩) :
    Calls Tryz.prog 15 #[.pointer (some ⟨B, 0, none⟩), .int .i64 now, .int .u32 sub, .int .u32 addr, .int .i64 block] wr fun r w' => r = .returned (.int .i64 (m.putE ⟨2, now, sub, addr, block⟩)) ∧ ∃ tag', StepR tag tag' w.heap.size 1 3 wr w' ∧ Run w N D B (k + 1) (m.put ⟨2, now, sub, addr, block⟩) (m.putG ⟨2, now, sub, addr, block⟩ G) w' tag' := by
  have h1 := h.outs
  have h2 := h.recs
  have h3 := h.L
  refine (bgrant_ok wr tag w.heap.size 1 D B (Nat.le_refl _) m h.bk h.below.size now sub addr block hok (2 + 4 * k) h.ok (by omega) (by omega) (by omega) (by omega)).mono ?_
  rintro r w' ⟨rfl, tag', hS, hK⟩
  exact ⟨rfl, tag', hS, h.put hok hS hK⟩

theorem run_release (h : Run w N D B k m G wr tag) (hk : k ≤ 150) (now addr block : Int) (hok : En.Ok ⟨3, now, 0, addr, block⟩) :
    Calls Tryz.prog 17 #[.pointer (some ⟨B, 0, none⟩), .int .i64 now, .int .u32 addr, .int .i64 block] wr fun r w' => r = .returned (.int .i64 (m.putE ⟨3, now, 0, addr, block⟩)) ∧ ∃ tag', StepR tag tag' w.heap.size 1 3 wr w' ∧ Run w N D B (k + 1) (m.put ⟨3, now, 0, addr, block⟩) (m.putG ⟨3, now, 0, addr, block⟩ G) w' tag' := by
  have h1 := h.outs
  have h2 := h.recs
  have h3 := h.L
  refine (brelease_ok wr tag w.heap.size 1 D B (Nat.le_refl _) m h.bk h.below.size now addr block hok (2 + 4 * k) h.ok (by omega) (by omega) (by omega) (by omega)).mono ?_
  rintro r w' ⟨rfl, tag', hS, hK⟩
  exact ⟨rfl, tag', hS, h.put hok hS hK⟩

theorem run_outcomes (h : Run w N D B k m G wr tag) (hk : k ≤ 150) (v : Value) (l : List Int) (hv : Bts wr v l) (h5 : l.length ≤ 500) :
    Calls Tryz.prog 11 #[.pointer (some ⟨D, 0, none⟩), v] wr fun e w' => e = .returned (.tuple #[]) ∧ ∃ tag', StepR tag tag' w.heap.size 1 1 wr w' ∧ Run w N D B (k + 1) ⟨m.s.add l, m.t, m.L, m.D⟩ G w' tag' := by
  have h1 := h.outs
  have hb : isBytes l := by obtain ⟨_, _, _, _, _, _, _, hb, _⟩ := hv; exact hb
  refine (boutcomes_ok wr tag w.heap.size 1 D B m h.bk h.below.size v l hv (by omega)).mono ?_
  rintro e w' ⟨rfl, tag', hS, hK⟩
  exact ⟨rfl, tag', hS, h.add hb h5 hS hK⟩

/-- The first book. -/
theorem run_fresh (wr : World) (hb : Below w.heap.size w wr) (n : Nat) (N' : Int) (hN : N' = n) (h1 : 1 ≤ n) (h2 : n ≤ 4096) :
    Calls Tryz.prog 22 #[.int .i64 N', .int .i64 0] wr fun e w' => ∃ D B tag', e = .returned (.tuple #[.pointer (some ⟨D, 0, none⟩), .pointer (some ⟨B, 0, none⟩)]) ∧ Run w n D B 0 (newB n 0) (wrtG (St.new n) ⟨0, 0, []⟩ [bootE 0] []) w' tag' := by
  refine (fresh_ok11 wr (fun _ => 0) w.heap.size 1 (Nat.le_refl _) hb.size n N' hN h1 h2 0 rfl).mono ?_
  rintro e w' ⟨D, B, tag', rfl, hK, hT, hB⟩
  obtain ⟨n1, n2, n3, n4, n5⟩ := newB_ok n h1 h2 0 rfl
  have hg := (wrtG_grew [bootE 0] (St.new n) ⟨0, 0, []⟩ (G := []) (fun x hx => by cases hx)).1
  exact ⟨D, B, tag', rfl, ⟨hK, n1, (new_sv n h1 h2 0).1, hg.sf, n2, by omega, by omega, by rw [n5]; simp, hg.len, fun j hj => hT j (Nat.lt_of_lt_of_le hj hb.size), hb.trans hB⟩⟩

/-- A crash, and what its disk shows. -/
theorem run_crash (h : Run w N D B k m G wr tag) (hk : k ≤ 150) (o : Nat) (v : Value) (ch : List Int) (hv : Bts wr v ch) :
    Calls Tryz.prog 13 #[.pointer (some ⟨D, 0, none⟩), v] wr fun e w' => ∃ p2 tag', e = .returned (.pointer (some ⟨p2.D, 0, none⟩)) ∧ PD w' tag' w.heap.size o (m.s.crash ch) p2 ∧ (∀ k, k < wr.heap.size → tag' k = tag k) ∧ Below wr.heap.size wr w' := by
  obtain ⟨p, q, kv, dv, k0, k1, k2, k3⟩ := h.bk
  exact crash_okD wr tag w.heap.size 1 o m.s p k1 h.below.size (by have := h.ok.nb.sin; omega) v ch hv D k0

theorem Run.found (h : Run w N D B k m G wr tag) (ch : List Int) : ∃ hh, bodK (m.s.crash ch).now (m.s.crash ch).n = hh ∧ Btw hh G := by
  obtain ⟨hh, e1, e2⟩ := Poss.found h.sv (Nat.zero_le _) (h.sv.possC h.ok.nb.ok ch)
  refine ⟨hh, ?_, e2⟩
  show bodK (m.s.crash ch).now m.s.n = hh
  rw [e1]
  rfl

theorem Run.foundN (h : Run w N D B k m G wr tag) : ∃ hh, bodK m.s.now m.s.n = hh ∧ Btw hh G := by
  obtain ⟨hh, e1, e2⟩ := Poss.found h.sv (Nat.zero_le _) h.sv.possN
  refine ⟨hh, ?_, e2⟩
  rw [e1]
  rfl

end

end Go.Proofs.YtafkkehcacdodaaGreat
