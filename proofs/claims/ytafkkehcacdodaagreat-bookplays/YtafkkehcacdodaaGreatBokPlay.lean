/- A book of the program and one of the document, side by side: of the owners 1 to 3 and 4 to 6. -/
import Derived.Test.YtafkkehcacdodaaGreatBokLooks
import Derived.Test.YtafkkehcacdodaaGreatBokRopen2
import Derived.Test.YtafkkehcacdodaaGreatBokDeeds
import Derived.Test.YtafkkehcacdodaaGreatBokPay
import Derived.Test.YtafkkehcacdodaaGreatBokFresh
set_option maxRecDepth 100000
namespace Go.Proofs.YtafkkehcacdodaaGreat
open Go.RowKit Go.Shelf

/-- What Open answers, and the disk behind it. -/
def opE (s : St) (now : Int) : Int := if goodT now then opnE s now else 1
def opS (s : St) (now : Int) : St := if goodT now then opnS s now else s

theorem bookV_of {x : Int} {B : Nat} : (x = 0 ∧ bookV x B = .pointer (some ⟨B, 0, none⟩)) ∨ (x ≠ 0 ∧ bookV x B = .pointer none) := by
  unfold bookV
  by_cases h : x = 0
  · exact .inl ⟨h, if_pos h⟩
  · exact .inr ⟨h, if_neg h⟩

/-- A disk's numbers. -/
structure Sz (n q u : Nat) (s : St) : Prop where
  ok : s.Ok
  sn : s.n = n
  ops : s.ops ≤ q
  sin : s.since.length ≤ q
  outs : s.outs.length ≤ u

/-- A book's numbers. -/
structure Sm (n q u r : Nat) (m : Bm) : Prop where
  ok : m.Ok q
  sn : m.s.n = n
  outs : m.s.outs.length ≤ u
  recs : m.t.recs.length ≤ r
  L : m.L.length ≤ r

theorem Sm.sz {n q u r : Nat} {m : Bm} (h : Sm n q u r m) : Sz n q u m.s := ⟨h.ok.nb.ok, h.sn, h.ok.nb.ops, h.ok.nb.sin, h.outs⟩

theorem Sz.mono {n q u q' u' : Nat} {s : St} (h : Sz n q u s) (hq : q ≤ q') (hu : u ≤ u') : Sz n q' u' s := ⟨h.ok, h.sn, Nat.le_trans h.ops hq, Nat.le_trans h.sin hq, Nat.le_trans h.outs hu⟩
theorem Sm.mono {n q u r q' u' r' : Nat} {m : Bm} (h : Sm n q u r m) (hq : q ≤ q') (hu : u ≤ u') (hr : r ≤ r') : Sm n q' u' r' m := ⟨h.ok.mono hq, h.sn, Nat.le_trans h.outs hu, Nat.le_trans h.recs hr, Nat.le_trans h.L hr⟩

theorem Sz.add {n q u : Nat} {s : St} (h : Sz n q u s) {l : List Int} (hl : isBytes l) (h5 : l.length ≤ 500) : Sz n q (u + 500) (s.add l) :=
  ⟨h.ok.add hl, h.sn, h.ops, h.sin, by have := h.outs; show (s.outs ++ l).length ≤ _; rw [List.length_append]; omega⟩

theorem Sm.add {n q u r : Nat} {m : Bm} (h : Sm n q u r m) {l : List Int} (hl : isBytes l) (h5 : l.length ≤ 500) : Sm n q (u + 500) r ⟨m.s.add l, m.t, m.L, m.D⟩ :=
  ⟨⟨⟨h.ok.nb.ok.add hl, h.ok.nb.tk, h.ok.nb.ops, h.ok.nb.sin⟩, h.ok.fL, h.ok.fD, h.ok.d1⟩, h.sn, (h.sz.add hl h5).outs, h.recs, h.L⟩

theorem Sm.put {n q u r : Nat} {m : Bm} (h : Sm n q u r m) {e : En} (he : e.Ok) : Sm n (q + 4) u (r + 2) (m.put e) := by
  obtain ⟨h1, h2⟩ := h.ok.put he
  exact ⟨h1, h2.sn.trans h.sn, Nat.le_trans h2.outs h.outs, by have := h2.recs; have := h.recs; omega, by have := h2.L; have := h.L; omega⟩

theorem Sm.pay {n q u r : Nat} {m : Bm} (h : Sm n q u r m) : Sm n (q + 2) u (r + 1) m.pay := by
  obtain ⟨h1, h2, _⟩ := h.ok.pay
  exact ⟨h1, h2.sn.trans h.sn, Nat.le_trans h2.outs h.outs, by have := h2.recs; have := h.recs; omega, by have := h2.L; have := h.L; omega⟩

theorem Sz.crash {n q u : Nat} {s : St} (h : Sz n q u s) (ch : List Int) : Sz n 0 0 (s.crash ch) := ⟨h.ok.crash ch, h.sn, Nat.le_refl _, Nat.le_refl _, Nat.le_refl _⟩

theorem Sz.opened {n q u : Nat} {s : St} (h : Sz n q u s) (hn : n ≤ 40) {now : Int} (hg : goodT now = true) : (startL s).length ≤ 320 ∧ Sm n (q + 400) u 641 (opnB s now) := by
  have hgt : 0 ≤ now ∧ now ≤ 1099511627776 := of_decide_eq_true hg
  have h1 := start_len h.ok
  have h2 := more_len (startL s) now
  have h3 := (openT_ok h.ok).2.1
  have hsn := h.sn
  obtain ⟨k1, k2, k3, k4⟩ := opn_ok h.ok h.ops h.sin hgt.1 hgt.2
  have h0 := h.outs
  refine ⟨by omega, k1.mono (by omega), k2.trans hsn, by omega, by omega, ?_⟩
  show (startL s ++ moreE (startL s) now).length ≤ _
  rw [List.length_append]; omega

theorem Sz.opS {n q u : Nat} {s : St} (h : Sz n q u s) (hn : n ≤ 40) (now : Int) : Sz n (q + 400) u (Go.Proofs.YtafkkehcacdodaaGreat.opS s now) := by
  unfold Go.Proofs.YtafkkehcacdodaaGreat.opS
  by_cases hg : goodT now = true
  · rw [if_pos hg]
    exact (h.opened hn hg).2.sz
  · rw [if_neg hg]
    exact h.mono (by omega) (Nat.le_refl _)

theorem popen_any (w : World) (tag : Nat → Nat) (base o : Nat) (ho : 1 ≤ o) (s : St) (p : PL) (D : Nat) (hD : p.D = D) (h : PD w tag base o s p) (hbase : base ≤ w.heap.size) (now : Int) {n q u : Nat} (hz : Sz n q u s) (hn : n ≤ 40) (hq : q ≤ 500000) (hu : u ≤ 500000) :
    Calls Tryz.prog 9 #[.pointer (some ⟨D, 0, none⟩), .int .i64 now] w fun e w' => ∃ tag' B, StepR tag tag' base o (o + 2) w w' ∧ (∃ p', p'.D = D ∧ PD w' tag' base o (opS s now) p') ∧ (opE s now = 0 → BK w' tag' base o D B (opnB s now)) ∧ e = .returned (.tuple #[bookV (opE s now) B, .int .i64 (opE s now)]) := by
  subst hD
  have h1 := hz.ops
  have h2 := hz.sin
  have h3 := hz.outs
  unfold opE opS
  by_cases hg : goodT now = true
  · rw [if_pos hg, if_pos hg]
    have h4 := (hz.opened hn hg).1
    refine (bopen_ok w tag base o ho s p h hbase now hg (by omega) (by omega) (by omega) (by omega)).mono ?_
    rintro e w' ⟨tag', hS, B, hK, rfl⟩
    obtain ⟨p', q', kv, dv, k0, k1, k2, k3⟩ := hK
    exact ⟨tag', B, hS, ⟨p', k0, k1⟩, fun hE => by rw [← opn_wr s now hE]; exact ⟨p', q', kv, dv, k0, k1, k2, k3⟩, rfl⟩
  · rw [if_neg hg, if_neg hg]
    refine (bopen_bad w p.D now (by simpa using hg)).mono ?_
    rintro e w' ⟨rfl, hB⟩
    exact ⟨clip tag w.heap.size, 0, stepR_clip tag base o (o + 2) hbase hB, ⟨p, rfl, h.clip hB⟩, (fun hE => by cases hE), rfl⟩

theorem ropen_any (w : World) (tag : Nat → Nat) (base o : Nat) (ho : 1 ≤ o) (ho2 : o + 2 < 40) (s : St) (p : ML) (M : Nat) (hM : p.M = M) (h : MD w tag base o s p) (hbase : base ≤ w.heap.size) (now : Int) {n q u : Nat} (hz : Sz n q u s) (hn : n ≤ 40) (hq : q ≤ 500000) (hu : u ≤ 500000) :
    Calls Tryz.prog 10 #[.pointer (some ⟨M, 0, none⟩), .int .i64 now] w fun e w' => ∃ tag' B, StepR tag tag' base o (o + 2) w w' ∧ (∃ p', p'.M = M ∧ MD w' tag' base o (opS s now) p') ∧ (opE s now = 0 → RK w' tag' base o M B (opnB s now)) ∧ e = .returned (.tuple #[bookV (opE s now) B, .int .i64 (opE s now)]) := by
  subst hM
  have h1 := hz.ops
  have h2 := hz.sin
  have h3 := hz.outs
  unfold opE opS
  by_cases hg : goodT now = true
  · rw [if_pos hg, if_pos hg]
    have h4 := (hz.opened hn hg).1
    refine (ropen11_ok w tag base o ho ho2 s p h hbase now hg (by omega) (by omega) (by omega) (by omega)).mono ?_
    rintro e w' ⟨tag', B, hS, hK, rfl⟩
    obtain ⟨p', q', kv, dv, k0, k1, k2, k3⟩ := hK
    exact ⟨tag', B, hS, ⟨p', k0, k1⟩, fun hE => by rw [← opn_wr s now hE]; exact ⟨p', q', kv, dv, k0, k1, k2, k3⟩, rfl⟩
  · rw [if_neg hg, if_neg hg]
    refine (ropen_bad w p.M now (by simpa using hg)).mono ?_
    rintro e w' ⟨rfl, rfl⟩
    exact ⟨tag, 0, StepR.refl _ _ _ _ _, ⟨p, rfl, h⟩, (fun hE => by cases hE), rfl⟩

/-- Both, where their disks have had outcomes (f: the program's; g: the document's). -/
def Two (wr : World) (tag : Nat → Nat) (base D M n q u r : Nat) (bv mv : Value) (f g : St → St) : Prop :=
  (∃ s p pm, p.D = D ∧ pm.M = M ∧ PD wr tag base 1 (f s) p ∧ MD wr tag base 4 (g s) pm ∧ Sz n q u s ∧ bv = .pointer none ∧ mv = .pointer none) ∨
  (∃ m B B', BK wr tag base 1 D B ⟨f m.s, m.t, m.L, m.D⟩ ∧ RK wr tag base 4 M B' ⟨g m.s, m.t, m.L, m.D⟩ ∧ Sm n q u r m ∧ bv = .pointer (some ⟨B, 0, none⟩) ∧ mv = .pointer (some ⟨B', 0, none⟩))

section
variable {wr w' : World} {tag tag' : Nat → Nat} {base D M n q u r : Nat} {bv mv : Value} {f g : St → St}

theorem Two.disk (h : Two wr tag base D M n q u r bv mv id id) : ∃ s p pm, p.D = D ∧ pm.M = M ∧ PD wr tag base 1 s p ∧ MD wr tag base 4 s pm ∧ Sz n q u s := by
  rcases h with ⟨s, p, pm, h1, h2, h3, h4, h5, _⟩ | ⟨m, B, B', hb, hr, hs, _⟩
  · exact ⟨s, p, pm, h1, h2, h3, h4, h5⟩
  · obtain ⟨p, _, _, _, h1, h3, _⟩ := hb
    obtain ⟨pm, _, _, _, h2, h4, _⟩ := hr
    exact ⟨m.s, p, pm, h1, h2, h3, h4, hs.sz⟩

theorem Two.new (h : Two wr tag base D M n q u r bv mv f g) (hb : Below wr.heap.size wr w') : Two w' (clip tag wr.heap.size) base D M n q u r bv mv f g := by
  rcases h with ⟨s, p, pm, h1, h2, h3, h4, h5⟩ | ⟨m, B, B', hk, hr, hs⟩
  · exact .inl ⟨s, p, pm, h1, h2, h3.clip hb, h4.keep (fun k hk _ => hb.block k hk) (fun k hk => clip_lt _ _ _ hk), h5⟩
  · exact .inr ⟨m, B, B', hk.new hb, hr.new hb, hs⟩

theorem Two.mono {q' u' r' : Nat} (h : Two wr tag base D M n q u r bv mv f g) (hq : q ≤ q') (hu : u ≤ u') (hr : r ≤ r') : Two wr tag base D M n q' u' r' bv mv f g := by
  rcases h with ⟨s, p, pm, h1, h2, h3, h4, h5, h6⟩ | ⟨m, B, B', k1, k2, k3, k4⟩
  · exact .inl ⟨s, p, pm, h1, h2, h3, h4, h5.mono hq hu, h6⟩
  · exact .inr ⟨m, B, B', k1, k2, k3.mono hq hu hr, k4⟩

/-- Both opened. -/
theorem two_opened {s : St} {now : Int} {w5 w6 : World} {tag5 tag6 : Nat → Nat} {B B' : Nat} (hz : Sz n q u s) (hn : n ≤ 40) (hr : 641 ≤ r)
    (h1 : ∃ p', p'.D = D ∧ PD w5 tag5 base 1 (opS s now) p') (h2 : opE s now = 0 → BK w5 tag5 base 1 D B (opnB s now)) (hS : StepR tag5 tag6 base 4 6 w5 w6)
    (h3 : ∃ p', p'.M = M ∧ MD w6 tag6 base 4 (opS s now) p') (h4 : opE s now = 0 → RK w6 tag6 base 4 M B' (opnB s now)) :
    Two w6 tag6 base D M n (q + 400) u r (bookV (opE s now) B) (bookV (opE s now) B') id id := by
  by_cases hE : opE s now = 0
  · have hg : goodT now = true := by
      unfold opE at hE
      split at hE
      · assumption
      · cases hE
    refine .inr ⟨opnB s now, B, B', (h2 hE).otherR hS (by omega), h4 hE, (hz.opened hn hg).2.mono (Nat.le_refl _) (Nat.le_refl _) hr, ?_, ?_⟩
    · rw [hE]; rfl
    · rw [hE]; rfl
  · obtain ⟨p, hp, hP⟩ := h1
    obtain ⟨pm, hpm, hM⟩ := h3
    exact .inl ⟨opS s now, p, pm, hp, hpm, hP.otherR hS (by omega), hM, hz.opS hn now, if_neg hE, if_neg hE⟩

/-- Outcomes of the program's disk. -/
theorem two_out (h : Two wr tag base D M n q u r bv mv id id) (hbase : base ≤ wr.heap.size) (v : Value) (l : List Int) (hv : Bts wr v l) (h5 : l.length ≤ 500) (hu : u ≤ 500000) :
    Calls Tryz.prog 11 #[.pointer (some ⟨D, 0, none⟩), v] wr fun e w' => e = .returned (.tuple #[]) ∧ ∃ tag', StepR tag tag' base 1 3 wr w' ∧ Two w' tag' base D M n q u r bv mv (fun s => s.add l) id := by
  rcases h with ⟨s, p, pm, h1, h2, h3, h4, h5', h6⟩ | ⟨m, B, B', k1, k2, k3, k4⟩
  · refine (outcomes_okD wr tag base 1 s p h3 hbase v l hv (by have := h5'.outs; omega) D h1).mono ?_
    rintro e w' ⟨rfl, p', tag', j1, j2, j3⟩
    have hS := j3.range (lo := 1) (hi := 3) (by omega) (by omega)
    exact ⟨rfl, tag', hS, .inl ⟨s, p', pm, j1, h2, j2, h4.otherR hS (by omega), h5', h6⟩⟩
  · refine (boutcomes_ok wr tag base 1 D B m k1 hbase v l hv (by have := k3.outs; omega)).mono ?_
    rintro e w' ⟨rfl, tag', j1, j2⟩
    exact ⟨rfl, tag', j1.wide (Nat.le_refl _) (by omega), .inr ⟨m, B, B', j2, k2.otherR j1 (by omega), k3, k4⟩⟩

/-- And of the document's. -/
theorem two_add {l : List Int} (h : Two wr tag base D M n q u r bv mv (fun s => s.add l) id) (hbase : base ≤ wr.heap.size) (v : Value) (hv : Bts wr v l) (hvo : l ≠ [] → ∀ g, v.ownBlock = some g → tag g / 16 ≠ 4) (hl : isBytes l) (h5 : l.length ≤ 500) (hu : u ≤ 500000) :
    Calls Tryz.prog 12 #[.pointer (some ⟨M, 0, none⟩), v] wr fun e w' => e = .returned (.tuple #[]) ∧ ∃ tag', StepR tag tag' base 4 6 wr w' ∧ Two w' tag' base D M n q (u + 500) r bv mv id id := by
  rcases h with ⟨s, p, pm, h1, h2, h3, h4, h5', h6⟩ | ⟨m, B, B', k1, k2, k3, k4⟩
  · subst h2
    refine (radd_ok wr tag base 4 s pm h4 hbase v l hv hvo (by have := h5'.outs; omega)).mono ?_
    rintro e w' ⟨rfl, p', tag', j1, j2, j3⟩
    have hS := j3.range (lo := 4) (hi := 6) (by omega) (by omega)
    exact ⟨rfl, tag', hS, .inl ⟨s.add l, p, p', h1, j1, h3.otherR hS (by omega), j2, h5'.add hl h5, h6⟩⟩
  · obtain ⟨pm, q', kv, dv, r0, r1, r2, r3⟩ := k2
    subst r0
    refine (radd_ok wr tag base 4 m.s pm r1 hbase v l hv hvo (by have := k3.outs; omega)).mono ?_
    rintro e w' ⟨rfl, p', tag', j1, j2, j3⟩
    have hS := j3.range (lo := 4) (hi := 4) (by omega) (by omega)
    exact ⟨rfl, tag', hS.wide (by omega) (by omega), .inr ⟨⟨m.s.add l, m.t, m.L, m.D⟩, B, B', k1.otherR hS (by omega), ⟨p', q', kv, dv, j1, j2, r2.otherR hS (by omega), r3.otherR hS (by omega)⟩, k3.add hl h5, k4⟩⟩

end

end Go.Proofs.YtafkkehcacdodaaGreat
