/- A book in memory: the owners of its disk, its strand and itself stand side by side. -/
import Derived.Test.YtafkkehcacdodaaGreatBokTake
import Derived.Test.YtafkkehcacdodaaGreatM16
import Derived.Test.YtafkkehcacdodaaGreatTraSame
import Derived.Test.YtafkkehcacdodaaGreatM18
import Derived.Test.YtafkkehcacdodaaGreatM7
set_option maxRecDepth 100000
namespace Go.Proofs.YtafkkehcacdodaaGreat
open Go.RowKit

/-- A step by the owners lo to hi. -/
structure StepR (tag tag' : Nat → Nat) (base lo hi : Nat) (w w' : World) : Prop where
  below : Below base w w'
  tags : ∀ k, k < w.heap.size → tag' k = tag k
  kept : ∀ k, k < w.heap.size → (tag k / 16 < lo ∨ hi < tag k / 16) → w'.heap[k]? = w.heap[k]?

section
variable {tag tag' tag'' : Nat → Nat} {base lo hi : Nat} {w w' w'' : World}

theorem StepR.refl (tag : Nat → Nat) (base lo hi : Nat) (w : World) : StepR tag tag base lo hi w w := ⟨Below.refl _ _, fun _ _ => rfl, fun _ _ _ => rfl⟩

theorem StepR.trans (h : StepR tag tag' base lo hi w w') (k : StepR tag' tag'' base lo hi w' w'') : StepR tag tag'' base lo hi w w'' := by
  have hs := h.below.size
  exact ⟨h.below.trans k.below, fun i hi => (k.tags i (by omega)).trans (h.tags i hi), fun i hi hne => (k.kept i (by omega) (by rw [h.tags i hi]; exact hne)).trans (h.kept i hi hne)⟩

theorem StepR.wide {lo' hi' : Nat} (h : StepR tag tag' base lo hi w w') (h1 : lo' ≤ lo) (h2 : hi ≤ hi') : StepR tag tag' base lo' hi' w w' :=
  ⟨h.below, h.tags, fun k hk hne => h.kept k hk (by omega)⟩

theorem Step.range {o : Nat} (h : Step tag tag' base o w w') (h1 : lo ≤ o) (h2 : o ≤ hi) : StepR tag tag' base lo hi w w' :=
  ⟨h.below, h.tags, fun k hk hne => h.kept k hk (by omega)⟩

theorem Step2.range {o o' : Nat} (h : Step2 tag tag' base o o' w w') (h1 : lo ≤ o) (h2 : o ≤ hi) (h3 : lo ≤ o') (h4 : o' ≤ hi) : StepR tag tag' base lo hi w w' :=
  ⟨h.below, h.tags, fun k hk hne => h.kept k hk (by omega) (by omega)⟩

theorem stepR_new (tag : Nat → Nat) (base lo hi : Nat) (hb : base ≤ w.heap.size) (h : Below w.heap.size w w') : StepR tag tag base lo hi w w' :=
  ⟨h.mono hb, fun _ _ => rfl, fun k hk _ => h.block k hk⟩

theorem stepR_clip (tag : Nat → Nat) (base lo hi : Nat) (hb : base ≤ w.heap.size) (h : Below w.heap.size w w') : StepR tag (clip tag w.heap.size) base lo hi w w' :=
  ⟨h.mono hb, fun _ hk => clip_lt _ _ _ hk, fun k hk _ => h.block k hk⟩

theorem PD.otherR {b : Nat} {s : St} {p : PL} (h : PD w tag base b s p) (hb : StepR tag tag' base lo hi w w') (ho : b < lo ∨ hi < b) : PD w' tag' base b s p :=
  h.keep (fun k hk ht => hb.kept k hk (by rw [ht]; exact ho)) hb.tags

theorem MD.otherR {b : Nat} {s : St} {p : ML} (h : MD w tag base b s p) (hb : StepR tag tag' base lo hi w w') (ho : b < lo ∨ hi < b) : MD w' tag' base b s p :=
  h.keep (fun k hk ht => hb.kept k hk (by rw [ht]; exact ho)) hb.tags

theorem PO.otherR {b D : Nat} {t : Sd} {q : SL} (h : PO w tag base b D t q) (hb : StepR tag tag' base lo hi w w') (ho : b < lo ∨ hi < b) : PO w' tag' base b D t q :=
  h.keep (fun k hk ht => hb.kept k hk (by rw [ht]; exact ho)) hb.tags hb.below.size

end

/-- Entries in cells. -/
def eL5 (e : En) : List Value := [.int .i64 e.kind, .int .i64 e.time, .int .u32 e.sub, .int .u32 e.addr, .int .i64 e.block]

theorem eL5_length (e : En) : (eL5 e).length = 5 := rfl

theorem eL5_cells (l : List En) : (l.flatMap eL5).length = l.length * 5 := flat_length eL5_length l

theorem eL5_one (l : List En) : ∀ u ∈ l.flatMap eL5, u.oneCell' = true := by
  intro u hu
  obtain ⟨e, _, hu⟩ := List.mem_flatMap.1 hu
  unfold eL5 at hu
  simp at hu
  rcases hu with rfl | rfl | rfl | rfl | rfl <;> rfl

/-- Where a book lies: itself, its entries, its debts. -/
structure PB (w : World) (tag : Nat → Nat) (base o S : Nat) (L D : List En) (B : Nat) (kv dv : Value) : Prop where
  bB : Blk w B [.pointer (some ⟨S, 0, none⟩), kv, dv]
  wK : Win w 5 kv L.length (L.flatMap eL5)
  wD : Win w 5 dv D.length (D.flatMap eL5)
  tB : tag B = 16 * o + 1 ∧ base ≤ B
  tK : ∀ g, kv.ownBlock = some g → tag g = 16 * o + 2 ∧ base ≤ g
  tD : ∀ g, dv.ownBlock = some g → tag g = 16 * o + 3 ∧ base ≤ g

section
variable {w w' : World} {tag tag' : Nat → Nat} {base o S : Nat} {L D : List En} {B : Nat} {kv dv : Value}

theorem PB.keep (h : PB w tag base o S L D B kv dv) (hk : ∀ k, k < w.heap.size → tag k / 16 = o → w'.heap[k]? = w.heap[k]?) (ht : ∀ k, k < w.heap.size → tag' k = tag k) : PB w' tag' base o S L D B kv dv :=
  ⟨h.bB.same (hk _ h.bB.lt (by have := h.tB.1; omega)), h.wK.same (fun g hg => hk g (h.wK.lt g hg) (by have := (h.tK g hg).1; omega)), h.wD.same (fun g hg => hk g (h.wD.lt g hg) (by have := (h.tD g hg).1; omega)),
    ⟨by rw [ht _ h.bB.lt]; exact h.tB.1, h.tB.2⟩, fun g hg => ⟨by rw [ht _ (h.wK.lt g hg)]; exact (h.tK g hg).1, (h.tK g hg).2⟩, fun g hg => ⟨by rw [ht _ (h.wD.lt g hg)]; exact (h.tD g hg).1, (h.tD g hg).2⟩⟩

theorem PB.otherR {lo hi : Nat} (h : PB w tag base o S L D B kv dv) (hb : StepR tag tag' base lo hi w w') (ho : o < lo ∨ hi < o) : PB w' tag' base o S L D B kv dv :=
  h.keep (fun k hk ht => hb.kept k hk (by rw [ht]; exact ho)) hb.tags

theorem PB.later (h : PB w tag base o S L D B kv dv) (hb : Below w.heap.size w w') : PB w' tag base o S L D B kv dv :=
  h.keep (fun k hk _ => hb.block k hk) (fun _ _ => rfl)

theorem PB.s0 (h : PB w tag base o S L D B kv dv) : w.cell? ⟨B, 0, none⟩ = some (.pointer (some ⟨S, 0, none⟩)) := h.bB.cell 0
theorem PB.s1 (h : PB w tag base o S L D B kv dv) : w.cell? ⟨B, 1, none⟩ = some kv := h.bB.cell 1
theorem PB.s2 (h : PB w tag base o S L D B kv dv) : w.cell? ⟨B, 2, none⟩ = some dv := h.bB.cell 2
theorem PB.fB (h : PB w tag base o S L D B kv dv) (j : Nat) : w.frozen? ⟨B, j, none⟩ = false := h.bB.frozen j

end

theorem win_form {w : World} {size : Nat} {v : Value} {n : Nat} {xs : List Value} (h : Win w size v n xs) : ∃ a c, v = .slice a n c ∧ n ≤ c ∧ c ≤ maxLen := by
  rcases h.2 with ⟨h1, h2⟩ | ⟨g, o, cap, cs, h1, _, h2, h3, _⟩
  · exact ⟨none, 0, by rw [h1, h2], by omega, by decide⟩
  · exact ⟨_, _, h1, h2, h3⟩

/-- A window's entries are seen. -/
theorem win_ens {w : World} {v : Value} {l : List En} (h : Win w 5 v l.length (l.flatMap eL5)) : ∃ B O, Ens w v B O l ∧ (l ≠ [] → v.ownBlock = some B) := by
  rcases h.2 with ⟨h1, h2⟩ | ⟨g, o, cap, cs, h1, hb, h2, h3, h4, h5⟩
  · have hl : l = [] := List.eq_nil_of_length_eq_zero h2
    subst hl
    exact ⟨0, 0, ⟨none, 0, by rw [h1]; rfl, by simp, by decide, .inr rfl, fun i e he => by simp at he⟩, fun hne => absurd rfl hne⟩
  · refine ⟨g, o, ⟨_, cap, h1, h2, h3, .inl rfl, fun i e he => ?_⟩, fun _ => by rw [h1]; rfl⟩
    have hlt := (List.getElem?_eq_some_iff.1 he).1
    have hr := hb.range o (l.length * 5)
    rw [h5] at hr
    have hg : ∀ j, j < 5 → (l.flatMap eL5)[i * 5 + j]? = (eL5 e)[j]? := fun j hj => flat_get eL5_length he hj
    refine ⟨?_, ?_, ?_, ?_, ?_⟩
    · have := hr (i * 5 + 0) (.int .i64 e.kind) (by rw [hg 0 (by omega)]; rfl); simpa using this
    · have := hr (i * 5 + 1) (.int .i64 e.time) (by rw [hg 1 (by omega)]; rfl); rwa [← Nat.add_assoc] at this
    · have := hr (i * 5 + 2) (.int .u32 e.sub) (by rw [hg 2 (by omega)]; rfl); rwa [← Nat.add_assoc] at this
    · have := hr (i * 5 + 3) (.int .u32 e.addr) (by rw [hg 3 (by omega)]; rfl); rwa [← Nat.add_assoc] at this
    · have := hr (i * 5 + 4) (.int .i64 e.block) (by rw [hg 4 (by omega)]; rfl); rwa [← Nat.add_assoc] at this

/-- Entries that a slice shows, in memory that is none of the owners lo to hi. -/
structure Far (w : World) (tag : Nat → Nat) (lo hi : Nat) (v : Value) (l : List En) : Prop where
  win : Win w 5 v l.length (l.flatMap eL5)
  far : ∀ g, v.ownBlock = some g → tag g / 16 < lo ∨ hi < tag g / 16

theorem Far.step {w w' : World} {tag tag' : Nat → Nat} {base lo hi lo' hi' : Nat} {v : Value} {l : List En} (h : Far w tag lo hi v l) (hS : StepR tag tag' base lo' hi' w w') (h1 : lo ≤ lo') (h2 : hi' ≤ hi) : Far w' tag' lo hi v l :=
  ⟨h.win.same (fun g hg => hS.kept g (h.win.lt g hg) (by have := h.far g hg; omega)), fun g hg => by rw [hS.tags g (h.win.lt g hg)]; exact h.far g hg⟩

/-- A book with its strand and its disk, of the owners o, o + 1, o + 2. -/
def BK (w : World) (tag : Nat → Nat) (base o D B : Nat) (b : Bm) : Prop :=
  ∃ p q kv dv, p.D = D ∧ PD w tag base o b.s p ∧ PO w tag base (o + 1) D b.t q ∧ PB w tag base (o + 2) q.S b.L b.D B kv dv

theorem BK.otherR {w w' : World} {tag tag' : Nat → Nat} {base lo hi o D B : Nat} {b : Bm} (h : BK w tag base o D B b) (hb : StepR tag tag' base lo hi w w') (ho : o + 2 < lo ∨ hi < o) : BK w' tag' base o D B b := by
  obtain ⟨p, q, kv, dv, h0, h1, h2, h3⟩ := h
  exact ⟨p, q, kv, dv, h0, h1.otherR hb (by omega), h2.otherR hb (by omega), h3.otherR hb (by omega)⟩

theorem BK.new {w w' : World} {tag : Nat → Nat} {base o D B : Nat} {b : Bm} (h : BK w tag base o D B b) (hb : Below w.heap.size w w') : BK w' (clip tag w.heap.size) base o D B b := by
  obtain ⟨p, q, kv, dv, h0, h1, h2, h3⟩ := h
  exact ⟨p, q, kv, dv, h0, h1.clip hb, h2.clip hb, h3.keep (fun k hk _ => hb.block k hk) (fun k hk => clip_lt _ _ _ hk)⟩

theorem Far.new {w w' : World} {tag : Nat → Nat} {lo hi : Nat} {v : Value} {l : List En} (h : Far w tag lo hi v l) (hb : Below w.heap.size w w') : Far w' (clip tag w.heap.size) lo hi v l :=
  ⟨h.win.later hb, fun g hg => by rw [clip_lt _ _ _ (h.win.lt g hg)]; exact h.far g hg⟩

theorem bmade_nil (w : World) : Calls Tryz.prog 48 #[.pointer none] w fun e w' => e = .returned (.bool false) ∧ w' = w := by
  go_enter Tryz.func48, Tryz.ntmps48
  go_wp2
  go_ret
  exact ⟨rfl, rfl⟩

set_option maxHeartbeats 400000 in
theorem bmade_ok (w : World) (tag : Nat → Nat) (base o D B : Nat) (b : Bm) (h : BK w tag base o D B b) :
    Calls Tryz.prog 48 #[.pointer (some ⟨B, 0, none⟩)] w fun e w' => e = .returned (.bool true) ∧ w' = w := by
  obtain ⟨p, q, kv, dv, _, _, _, h3⟩ := h
  have h0 := h3.s0
  clear h3
  go_enter Tryz.func48, Tryz.ntmps48
  go_wp2
  go_ret
  exact ⟨rfl, rfl⟩

end Go.Proofs.YtafkkehcacdodaaGreat

namespace Go.Proofs.YtafkkehcacdodaaGreat
open Go.RowKit

/-- How a step ends that answers x. -/
def stepEnd (x : Int) : Ending := if x = 0 then .returned (.tuple #[]) else .panicked (chainOf x)

theorem stepEnd_zero : stepEnd 0 = .returned (.tuple #[]) := rfl

theorem stepEnd_no {x : Int} (h : x ≠ 0) : stepEnd x = .panicked (chainOf x) := if_neg h

/-- So far, when some entries stand. -/
structure Laid (w : World) (tag : Nat → Nat) (base o D B : Nat) (b : Bm) (l : List En) (q k : Nat) (wr : World) (s : St) (t : Sd) (tag' : Nat → Nat) : Prop where
  step : StepR tag tag' base o (o + 1) w wr
  bk : BK wr tag' base o D B ⟨s, t, b.L, b.D⟩
  nb : Nb s t (q + k)
  eE : layE b.s b.t l = layE s t (l.drop k)
  eS : layS b.s b.t l = layS s t (l.drop k)
  eT : layT b.s b.t l = layT s t (l.drop k)
  outs : s.outs.length ≤ b.s.outs.length
  recs : t.recs.length ≤ b.t.recs.length + k

set_option maxHeartbeats 4000000 in
theorem blay_ok (w : World) (tag : Nat → Nat) (base o D B : Nat) (ho : 1 ≤ o) (b : Bm) (h : BK w tag base o D B b) (hbase : base ≤ w.heap.size) (lv : Value) (l : List En) (hl : Far w tag o (o + 1) lv l) (hf : Fine l) (q : Nat) (hn : Nb b.s b.t q)
    (hq : q + l.length ≤ 900000) (hout : b.s.outs.length ≤ 900000) (hrec : b.t.recs.length + l.length ≤ 900000) :
    Calls Tryz.prog 50 #[.pointer (some ⟨B, 0, none⟩), lv] w fun e w' => ∃ tag', StepR tag tag' base o (o + 1) w w' ∧ BK w' tag' base o D B ⟨layS b.s b.t l, layT b.s b.t l, b.L, b.D⟩ ∧ e = stepEnd (layE b.s b.t l) := by
  obtain ⟨a, c, rfl, hc1, hc2⟩ := win_form hl.win
  have HF : Hid (Far w tag o (o + 1) (.slice a l.length c) l) := hl
  have HFi : Hid (Fine l) := hf
  have HL0 : Hid (Laid w tag base o D B b l q 0 w b.s b.t tag) := ⟨StepR.refl _ _ _ _ _, h, hn, rfl, rfl, rfl, Nat.le_refl _, Nat.le_refl _⟩
  unfold maxLen at hc2
  clear h hl hf hn
  go_enter Tryz.func50, Tryz.ntmps50
  go_wp2
  go_loopg [10] l.length (fun gk i wr => ∃ (k : Nat) (s : St) (t : Sd) (tag' : Nat → Nat), k + gk = l.length ∧ i = .int .i64 k ∧ Laid w tag base o D B b l q k wr s t tag')
  case atStart => exact ⟨0, _, _, _, by omega, rfl, HL0.out⟩
  case round =>
    obtain ⟨k, s, t, tag', hk, rfl, hL⟩ := hrel
    by_cases hlt : k < l.length
    case neg =>
      have hge : ¬ (k : Int) < (l.length : Int) := by omega
      have hd : l.drop k = [] := List.drop_of_length_le (by omega)
      have e1 := hL.eE
      have e2 := hL.eS
      have e3 := hL.eT
      rw [hd] at e1 e2 e3
      have HR : Hid (∃ tag', StepR tag tag' base o (o + 1) w wr ∧ BK wr tag' base o D B ⟨layS b.s b.t l, layT b.s b.t l, b.L, b.D⟩ ∧ stepEnd 0 = stepEnd (layE b.s b.t l)) := ⟨tag', hL.step, by rw [e2, e3]; exact hL.bk, by rw [e1]; rfl⟩
      clear hL e1 e2 e3 hd
      go_wp2
      go_end0
      exact HR.out
    have hltI : (k : Int) < (l.length : Int) := by omega
    obtain ⟨e, he⟩ : ∃ e, l[k]? = some e := ⟨_, List.getElem?_eq_getElem hlt⟩
    have hfe := HFi.out e (List.mem_of_getElem? he)
    have hFr := HF.out.step hL.step (Nat.le_refl _) (Nat.le_refl _)
    obtain ⟨EB, EO, hEns, _⟩ := win_ens hFr.win
    obtain ⟨a', c', hv, _, _, ha, hEn⟩ := hEns
    cases hv
    obtain rfl : a = some ⟨EB, EO, none⟩ := by
      rcases ha with g | g
      · exact g
      · subst g; simp at hlt
    obtain ⟨c0, c1, c2, c3, c4⟩ := hEn k e he
    have hdr : l.drop k = e :: l.drop (k + 1) := by
      rw [List.drop_eq_getElem_cons hlt]
      congr 1
      rw [List.getElem?_eq_getElem hlt] at he
      exact Option.some.inj he
    have HLd : Hid (Laid w tag base o D B b l q k wr s t tag') := hL
    have hbr : base ≤ wr.heap.size := Nat.le_trans hbase hL.step.below.size
    have hb1 := below_alloc wr (.cells (enC e) 73)
    have HE := encode_ok e (wr.alloc (.cells (enC e) 73)) hfe.1 hfe.2
    have hbd : e.May ∧ e.Ok := hfe
    have HFE : Hid (frameE (bytesE e) = 0) := frameE_bytes hfe.1
    clear hEn hFr he hL hfe ha
    have HC : Hid (l.drop k = e :: l.drop (k + 1)) := hdr
    have HME : Hid (e.May ∧ e.Ok) := hbd
    have HBY : Hid (isBytes (bytesE e)) := bytesE_bytes e
    clear hdr hbd
    obtain ⟨bs, hbs⟩ : ∃ bs, bs = bytesE e := ⟨_, rfl⟩
    have HBS : Hid (bs = bytesE e) := hbs
    rw [← hbs] at HE HBY HFE
    clear hbs
    have HCe : Hid (layE s t (l.drop k) = if appE s t bs ≠ 0 then appE s t bs else layE (appS s t bs) (appT s t bs) (l.drop (k + 1))) := by show _ = _; rw [HC.out, HBS.out]; rfl
    have HCs : Hid (layS s t (l.drop k) = if appE s t bs ≠ 0 then appS s t bs else layS (appS s t bs) (appT s t bs) (l.drop (k + 1))) := by show _ = _; rw [HC.out, HBS.out]; rfl
    have HCt : Hid (layT s t (l.drop k) = if appE s t bs ≠ 0 then appT s t bs else layT (appS s t bs) (appT s t bs) (l.drop (k + 1))) := by show _ = _; rw [HC.out, HBS.out]; rfl
    clear HC HBS HME
    obtain ⟨k0, k1, k2, k3, k4⟩ := e
    simp only at c0 c1 c2 c3 c4
    have hneed := need_no
    go_wp2_with fail
    refine (by exact HE : Calls _ _ _ _ _).mono ?_
    rintro e w2 ⟨v, rfl, hO, hB2⟩
    have hB02 : Below wr.heap.size wr w2 := hb1.trans (hB2.mono hb1.size)
    obtain ⟨p, q', kv, dv, hD, hP, hPo, hPb⟩ := HLd.out.bk.new hB02
    have hHd : Held w2 (clip tag' wr.heap.size) v bs := (hO.low hb1.size).held HBY.out
    have g0 := hPb.s0
    have hbw2 : base ≤ w2.heap.size := Nat.le_trans hbr hB02.size
    have hn1 := HLd.out.nb
    have hops := hn1.ops
    have hsin := hn1.sin
    have hou1 := HLd.out.outs
    have hre1 := HLd.out.recs
    have HA := append_ok8 w2 (clip tag' wr.heap.size) base o (o + 1) (by omega) ho (by omega) s p hP t q' (by rw [hD]; exact hPo) hbw2 hn1.tk v bs hHd HFE.out (by omega) (by omega) (by omega) (by omega)
    have HP2 : Hid (StepR tag' (clip tag' wr.heap.size) base o (o + 1) wr w2 ∧ PB w2 (clip tag' wr.heap.size) base (o + 2) q'.S b.L b.D B kv dv) := ⟨stepR_clip tag' base o (o + 1) hbr hB02, hPb⟩
    obtain ⟨va, vc, hvv, _⟩ := bts_src hHd.1
    subst hvv
    clear HE hO hB2 hB02 hP hPo hPb hHd hb1 c0 c1 c2 c3 c4 hn1
    go_wp2_with fail
    refine (by exact hneed _ : Calls _ _ _ _ _).mono ?_
    rintro e w2' ⟨rfl, hx⟩
    rw [hx]
    clear hx
    go_wp2_with fail
    refine HA.mono ?_
    rintro e w3 ⟨rfl, p3, q3, tag3, hD3, hS3, hP3, hQ3, hSt3⟩
    have hBK3 : BK w3 tag3 base o D B ⟨appS s t bs, appT s t bs, b.L, b.D⟩ := ⟨p3, q3, kv, dv, by rw [hD3, hD], hP3, by rw [← hD]; exact hQ3, by rw [hS3]; exact HP2.out.2.otherR (hSt3.range (Nat.le_refl o) (Nat.le_succ o) (Nat.le_succ o) (Nat.le_refl _)) (by omega)⟩
    have hSt03 : StepR tag tag3 base o (o + 1) w w3 := (HLd.out.step.trans HP2.out.1).trans (hSt3.range (Nat.le_refl o) (Nat.le_succ o) (Nat.le_succ o) (Nat.le_refl _))
    clear HA hP3 hQ3 hSt3
    by_cases hE : appE s t bs = 0
    · have hN2 := HLd.out.nb.app bs HBY.out
      have ho2 := outs_app s t bs
      have HL3 : Hid (Laid w tag base o D B b l q (k + 1) w3 (appS s t bs) (appT s t bs) tag3) :=
        ⟨hSt03, hBK3, hN2.1, by rw [HLd.out.eE, HCe.out, if_neg (by simpa using hE)], by rw [HLd.out.eS, HCs.out, if_neg (by simpa using hE)], by rw [HLd.out.eT, HCt.out, if_neg (by simpa using hE)], by omega, by have := hN2.2.2; omega⟩
      rw [hE]
      clear hSt03 hBK3 hN2 ho2
      go_wp2_with fail
      refine (by exact hneed _ : Calls _ _ _ _ _).mono ?_
      rintro e w3' ⟨rfl, hx⟩
      rw [hx]
      clear hx
      go_wp2
      go_roundg (l.length - (k + 1))
      case rel => exact ⟨k + 1, _, _, _, by omega, by go_num, HL3.out⟩
      case measure => omega
    · have HR : Hid (∃ tag', StepR tag tag' base o (o + 1) w w3 ∧ BK w3 tag' base o D B ⟨layS b.s b.t l, layT b.s b.t l, b.L, b.D⟩ ∧ .panicked (chainOf (appE s t bs)) = stepEnd (layE b.s b.t l)) :=
        ⟨tag3, hSt03, by rw [HLd.out.eS, HLd.out.eT, HCs.out, HCt.out, if_pos hE, if_pos hE]; exact hBK3, by rw [HLd.out.eE, HCe.out, if_pos hE, stepEnd_no hE]⟩
      clear hSt03 hBK3
      have hyes := need_yes (appE s t bs) w3 hE
      go_wp2_with fail
      refine (by exact hyes : Calls _ _ _ _ _).mono ?_
      rintro e w3' ⟨rfl, hx⟩
      rw [hx]
      clear hx
      go_wp2
      exact ⟨rfl, HR.out⟩

end Go.Proofs.YtafkkehcacdodaaGreat

namespace Go.Proofs.YtafkkehcacdodaaGreat
open Go.RowKit

set_option maxHeartbeats 1000000 in
theorem bseal_ok (w : World) (tag : Nat → Nat) (base o D B : Nat) (b : Bm) (h : BK w tag base o D B b) (hbase : base ≤ w.heap.size) (lv : Value) (q : Nat) (hn : Nb b.s b.t q) (hq : q ≤ 900000) (hout : b.s.outs.length ≤ 900000) :
    Calls Tryz.prog 51 #[.pointer (some ⟨B, 0, none⟩), lv] w fun e w' => ∃ tag', StepR tag tag' base o (o + 1) w w' ∧ BK w' tag' base o D B ⟨b.s.sync, synT b.s b.t, b.L, b.D⟩ ∧ e = stepEnd (errC b.s.out) := by
  obtain ⟨p, q', kv, dv, hD, hP, hPo, hPb⟩ := h
  have g0 := hPb.s0
  have hops := hn.ops
  have hsin := hn.sin
  have hn2 := hn.ok.n2
  have hpn := hn.tk.pn
  have HS := ssync_ok w tag base o (o + 1) (by omega) b.s p hP b.t q' (by rw [hD]; exact hPo) hbase (by omega) (by omega) (by omega) (by omega)
  have HB : Hid (PB w tag base (o + 2) q'.S b.L b.D B kv dv) := hPb
  have hneed := need_no
  have HR : Hid (∀ p1 w1 tag1, p1.D = p.D → PD w1 tag1 base o b.s.sync p1 → PO w1 tag1 base (o + 1) p.D (synT b.s b.t) q' → Step2 tag tag1 base o (o + 1) w w1 → StepR tag tag1 base o (o + 1) w w1 ∧ BK w1 tag1 base o D B ⟨b.s.sync, synT b.s b.t, b.L, b.D⟩) := by
    intro p1 w1 tag1 h1 h2 h3 h4
    have h5 := h4.range (Nat.le_refl o) (Nat.le_succ o) (Nat.le_succ o) (Nat.le_refl _)
    exact ⟨h5, p1, q', kv, dv, h1.trans hD, h2, by rw [← hD]; exact h3, HB.out.otherR h5 (by omega)⟩
  clear hP hPo hPb hn
  by_cases hE : errC b.s.out = 0
  · rw [hE] at HS ⊢
    go_enter Tryz.func51, Tryz.ntmps51
    go_wp2_with fail
    refine HS.mono ?_
    rintro e w1 ⟨rfl, p1, tag1, h1, h2, h3, h4⟩
    have hr := HR.out p1 w1 tag1 h1 h2 h3 h4
    clear h1 h2 h3 h4
    go_wp2_with fail
    refine (by exact hneed _ : Calls _ _ _ _ _).mono ?_
    rintro e w2 ⟨rfl, rfl⟩
    go_wp2
    go_end0
    exact ⟨tag1, hr.1, hr.2, rfl⟩
  · have hyes := fun w1 => need_yes (errC b.s.out) w1 hE
    have hEnd := stepEnd_no hE
    go_enter Tryz.func51, Tryz.ntmps51
    go_wp2_with fail
    refine HS.mono ?_
    rintro e w1 ⟨rfl, p1, tag1, h1, h2, h3, h4⟩
    have hr := HR.out p1 w1 tag1 h1 h2 h3 h4
    clear h1 h2 h3 h4
    go_wp2_with fail
    refine (by exact hyes _ : Calls _ _ _ _ _).mono ?_
    rintro e w2 ⟨rfl, rfl⟩
    go_wp2
    exact ⟨rfl, tag1, hr.1, hr.2, hEnd.symm⟩

theorem infoE5 : (Tryz.prog.info? 73).map (fun i => (i.zero, i.size, i.bytes)) = some (some (.agg #[.int .i64 0, .int .i64 0, .int .u32 0, .int .u32 0, .int .i64 0]), 5, 32) := by kernel_rfl

/-- An append onto a book's own row: the row is tagged anew. -/
theorem append_own9 {w : World} {tag : Nat → Nat} {base o T : Nat} {v : Value} {L : List En} (hw : Win w 5 v L.length (L.flatMap eL5)) (hT : ∀ g, v.ownBlock = some g → tag g = T ∧ base ≤ g) (hTo : T / 16 = o) (hbase : base ≤ w.heap.size)
    (lv : Value) (l : List En) (hl : Win w 5 lv l.length (l.flatMap eL5)) (hlen : L.length + l.length ≤ 1000000) :
    ∃ v' w' tag', (Builtin.append_ #[63, 63] 63 #[v, lv]).run Tryz.prog w = .ok v' w' ∧ Win w' 5 v' (L ++ l).length ((L ++ l).flatMap eL5) ∧ Step tag tag' base o w w' ∧ (∀ g, v'.ownBlock = some g → tag' g = T ∧ base ≤ g) ∧
      (∀ g, g < w.heap.size → v.ownBlock ≠ some g → w'.heap[g]? = w.heap[g]?) := by
  obtain ⟨i0, hi, hz0, hz1, hz2⟩ := info_parts infoE5
  have hsrc : ∃ a m c, lv = .slice a m c ∧ m = l.length ∧ ((∃ ad, a = some ad ∧ ∀ j u, (l.flatMap eL5)[j]? = some u → w.cell? (ad.add j) = some u) ∨ m = 0) := by
    rcases hl.2 with ⟨h1, h2⟩ | ⟨g, oo, cap, cs, h1, hb, h2, h3, h4, h5⟩
    · exact ⟨none, 0, 0, h1, h2.symm, .inr rfl⟩
    · refine ⟨_, _, cap, h1, rfl, .inl ⟨_, rfl, fun j u hj => ?_⟩⟩
      have hr := hb.range oo (l.length * 5)
      rw [h5] at hr
      have := hr j u hj
      rw [add_at]; exact this
  obtain ⟨a, m, c, rfl, hm, hs⟩ := hsrc
  subst hm
  obtain ⟨v', w', hr, hwin, hg, hat⟩ := win_append (P := Tryz.prog) w 63 63 73 i0 _ 5 32 Tryz.underlying63 hi hz0 hz1 hz2 rfl (by decide) v L.length _ hw a l.length c (l.flatMap eL5) (eL5_cells l) hs (eL5_one l) (by unfold maxLen; omega) (by omega)
  obtain ⟨h1, h2⟩ := step_grown hg hat hT hTo hbase
  refine ⟨v', w', _, hr, ?_, h1, h2, fun g hg1 hne => hg.block g hg1 (fun e => hne e.symm)⟩
  rw [List.flatMap_append, List.length_append]
  exact hwin

set_option maxHeartbeats 1000000 in
theorem bkeep_ok (w : World) (tag : Nat → Nat) (base o D B : Nat) (b : Bm) (h : BK w tag base o D B b) (hbase : base ≤ w.heap.size) (lv : Value) (l : List En) (hl : Win w 5 lv l.length (l.flatMap eL5)) (hlen : b.L.length + l.length ≤ 1000000) :
    Calls Tryz.prog 52 #[.pointer (some ⟨B, 0, none⟩), lv] w fun e w' => ∃ tag', StepR tag tag' base (o + 2) (o + 2) w w' ∧ BK w' tag' base o D B ⟨b.s, b.t, b.L ++ l, b.D⟩ ∧ e = .returned (.tuple #[]) := by
  obtain ⟨p, q', kv, dv, hD, hP, hPo, hPb⟩ := h
  have g1 := hPb.s1
  obtain ⟨v', w1, tag1, hr, hwin, hst, htag, hkp⟩ := append_own9 hPb.wK hPb.tK (o := o + 2) (by omega) hbase lv l hl hlen
  obtain ⟨va, vc, rfl, _⟩ := win_form hwin
  have hBk : kv.ownBlock ≠ some B := fun e => by have := (hPb.tK B e).1; have := hPb.tB.1; omega
  have hBl := hPb.bB.lt
  have hb1 : Blk w1 B [.pointer (some ⟨q'.S, 0, none⟩), kv, dv] := hPb.bB.same (hkp B hBl hBk)
  have hb2 := hb1.set 1 (.slice va (b.L ++ l).length vc)
  have hvB : (Value.slice va (b.L ++ l).length vc).ownBlock ≠ some B := fun e => by have := (htag B e).1; rw [hst.tags B hBl] at this; have := hPb.tB.1; omega
  have htB : tag1 B = 16 * (o + 2) + 1 := by rw [hst.tags B hBl]; exact hPb.tB.1
  have hst2 : Step tag tag1 base (o + 2) w (w1.setCell ⟨B, 1, none⟩ (.slice va (b.L ++ l).length vc)) := hst.set hPb.tB.2 (by omega) 1 (.slice va (b.L ++ l).length vc)
  have hsR : StepR tag tag1 base (o + 2) (o + 2) w (w1.setCell ⟨B, 1, none⟩ (.slice va (b.L ++ l).length vc)) := hst2.range (Nat.le_refl _) (Nat.le_refl _)
  have HR : Hid (∃ tag', StepR tag tag' base (o + 2) (o + 2) w (w1.setCell ⟨B, 1, none⟩ (.slice va (b.L ++ l).length vc)) ∧ BK (w1.setCell ⟨B, 1, none⟩ (.slice va (b.L ++ l).length vc)) tag' base o D B ⟨b.s, b.t, b.L ++ l, b.D⟩ ∧ Ending.returned (.tuple #[]) = .returned (.tuple #[])) := by
    refine ⟨tag1, hsR, ⟨p, q', _, dv, hD, hP.otherR hsR (by omega), hPo.otherR hsR (by omega), ⟨by simpa using hb2, ?_, ?_, ⟨htB, hPb.tB.2⟩, htag, ?_⟩⟩, rfl⟩
    · exact hwin.same (fun g hg => heap_setCell_other _ _ g _ (fun e => hvB (by rw [hg, show g = B from e])))
    · refine hPb.wD.same (fun g hg => ?_)
      have ht := (hPb.tD g hg).1
      rw [heap_setCell_other _ _ g _ (fun e => by have : g = B := e; rw [this] at ht; have := hPb.tB.1; omega)]
      exact hkp g (hPb.wD.lt g hg) (fun e => by have := (hPb.tK g e).1; omega)
    · exact fun g hg => ⟨by rw [hst.tags g (hPb.wD.lt g hg)]; exact (hPb.tD g hg).1, (hPb.tD g hg).2⟩
  have c1 := hb1.cell 1
  have f1 := hb1.frozen 1
  obtain ⟨a, c, rfl, _⟩ := win_form hl
  have c1' : w1.cell? ⟨B, 1, none⟩ = some kv := c1
  clear hP hPo hPb hst hst2 hsR hwin htag hkp hb1 hb2 hl c1
  go_enter Tryz.func52, Tryz.ntmps52
  go_wp2_with (at_builtin; refine wpl_append_run rfl _ _ 63 rfl _ _ rfl rfl hr ?_)
  go_end0
  simpa using HR.out

set_option maxHeartbeats 1000000 in
theorem bdis_ok (w : World) (tag : Nat → Nat) (base o D B : Nat) (b : Bm) (h : BK w tag base o D B b) (lv : Value) :
    Calls Tryz.prog 53 #[.pointer (some ⟨B, 0, none⟩), lv] w fun e w' => ∃ tag', StepR tag tag' base (o + 2) (o + 2) w w' ∧ BK w' tag' base o D B ⟨b.s, b.t, b.L, []⟩ ∧ e = .returned (.tuple #[]) := by
  obtain ⟨p, q', kv, dv, hD, hP, hPo, hPb⟩ := h
  have g2 := hPb.s2
  have f2 := hPb.fB 2
  have hb2 := hPb.bB.set 2 (.slice none 0 0)
  have hst : Step tag tag base (o + 2) w (w.setCell ⟨B, 2, none⟩ (.slice none 0 0)) := step_set tag base (o + 2) w hPb.tB.2 (by have := hPb.tB.1; omega) 2 _
  have hsR : StepR tag tag base (o + 2) (o + 2) w (w.setCell ⟨B, 2, none⟩ (.slice none 0 0)) := hst.range (Nat.le_refl _) (Nat.le_refl _)
  have HR : Hid (∃ tag', StepR tag tag' base (o + 2) (o + 2) w (w.setCell ⟨B, 2, none⟩ (.slice none 0 0)) ∧ BK (w.setCell ⟨B, 2, none⟩ (.slice none 0 0)) tag' base o D B ⟨b.s, b.t, b.L, []⟩ ∧ Ending.returned (.tuple #[]) = .returned (.tuple #[])) := by
    refine ⟨tag, hsR, ⟨p, q', kv, .slice none 0 0, hD, hP.otherR hsR (by omega), hPo.otherR hsR (by omega), ⟨by simpa using hb2, ?_, win_nil _ _, hPb.tB, hPb.tK, fun g hg => by simp [Value.ownBlock] at hg⟩⟩, rfl⟩
    refine hPb.wK.same (fun g hg => ?_)
    have ht := (hPb.tK g hg).1
    exact heap_setCell_other _ _ g _ (fun e => by have : g = B := e; rw [this] at ht; have := hPb.tB.1; omega)
  clear hP hPo hPb hst hsR hb2
  go_enter Tryz.func53, Tryz.ntmps53
  go_wp2
  go_end0
  simpa using HR.out

end Go.Proofs.YtafkkehcacdodaaGreat

namespace Go.Proofs.YtafkkehcacdodaaGreat
open Go.RowKit

theorem enters_lay : ∀ (args : Array Value) (w : World), (callFunc 50 args).run Tryz.prog w = .ok (.enter 50 args) w := enters_of Tryz.func50 (by kernel_rfl) rfl

theorem enters_seal : ∀ (args : Array Value) (w : World), (callFunc 51 args).run Tryz.prog w = .ok (.enter 51 args) w := enters_of Tryz.func51 (by kernel_rfl) rfl

theorem enters_keep : ∀ (args : Array Value) (w : World), (callFunc 52 args).run Tryz.prog w = .ok (.enter 52 args) w := enters_of Tryz.func52 (by kernel_rfl) rfl

theorem enters_dis : ∀ (args : Array Value) (w : World), (callFunc 53 args).run Tryz.prog w = .ok (.enter 53 args) w := enters_of Tryz.func53 (by kernel_rfl) rfl

theorem enters_may : ∀ (args : Array Value) (w : World), (callFunc 83 args).run Tryz.prog w = .ok (.enter 83 args) w := enters_of Tryz.func83 (by kernel_rfl) rfl

theorem enters_settle : ∀ (args : Array Value) (w : World), (callFunc 84 args).run Tryz.prog w = .ok (.enter 84 args) w := enters_of Tryz.func84 (by kernel_rfl) rfl

/-- The steps of write and Pay. -/
def fsW : Nat → Nat
  | 0 => 50
  | 1 => 51
  | 2 => 52
  | _ => 53

/-- The book behind j of them. -/
def stW (b : Bm) (l : List En) : Nat → Bm
  | 0 => b
  | 1 => ⟨layS b.s b.t l, layT b.s b.t l, b.L, b.D⟩
  | 2 => ⟨wrtS b.s b.t l, wrtT b.s b.t l, b.L, b.D⟩
  | 3 => ⟨wrtS b.s b.t l, wrtT b.s b.t l, b.L ++ l, b.D⟩
  | _ => ⟨wrtS b.s b.t l, wrtT b.s b.t l, b.L ++ l, []⟩

/-- The book behind a write. -/
def wrB (b : Bm) (l : List En) : Bm := ⟨wrtS b.s b.t l, wrtT b.s b.t l, if wrtE b.s b.t l = 0 then b.L ++ l else b.L, b.D⟩

/-- Between two steps. -/
structure IW (tag : Nat → Nat) (base o D B : Nat) (b : Bm) (lv : Value) (l : List En) (W0 : World) (j : Nat) (W : World) (tag' : Nat → Nat) : Prop where
  step : StepR tag tag' base o (o + 2) W0 W
  bk : BK W tag' base o D B (stW b l j)
  far : j ≤ 2 → Far W tag' o (o + 1) lv l
  e1 : 1 ≤ j → layE b.s b.t l = 0
  e2 : 2 ≤ j → wrtE b.s b.t l = 0

/-- Behind an error. -/
def EW (tag : Nat → Nat) (base o D B : Nat) (b : Bm) (l : List En) (W0 : World) (x : Int) (W : World) : Prop :=
  ∃ tag', StepR tag tag' base o (o + 2) W0 W ∧ BK W tag' base o D B ⟨wrtS b.s b.t l, wrtT b.s b.t l, b.L, b.D⟩ ∧ x = wrtE b.s b.t l

theorem stepR_cell {tag tag' : Nat → Nat} {base lo hi : Nat} {w w' : World} (h : StepR tag tag' base lo hi w w') {g : Nat} (hg : g < w.heap.size) (ht : tag g / 16 < lo) (j : Nat) : w'.cell? ⟨g, j, none⟩ = w.cell? ⟨g, j, none⟩ ∧ w'.frozen? ⟨g, j, none⟩ = w.frozen? ⟨g, j, none⟩ := by
  have := h.kept g hg (.inl ht)
  exact ⟨by unfold World.cell?; simp only [this], by unfold World.frozen?; simp only [this]⟩

theorem steps_w (n : Nat) (hn4 : n ≤ 4) (tag : Nat → Nat) (base o D B : Nat) (ho : 1 ≤ o) (b : Bm) (lv : Value) (l : List En) (W0 : World) (hbase : base ≤ W0.heap.size) (SB EB : Nat) (hSB : SB < W0.heap.size) (hEB : EB < W0.heap.size) (htS : tag SB / 16 < o) (htE : tag EB / 16 < o)
    (hcS : ∀ j, j < n → W0.cell? ⟨SB, j, none⟩ = some (.func (.func (fsW j)) #[.pointer (some ⟨B, 0, none⟩)] #[])) (hcE : W0.cell? ⟨EB, 0, none⟩ = some (.int .i64 0)) (hfE : W0.frozen? ⟨EB, 0, none⟩ = false)
    (q : Nat) (hnb : Nb b.s b.t q) (hf : Fine l) (hq : q + l.length ≤ 900000) (hout : b.s.outs.length ≤ 900000) (hrec : b.t.recs.length + l.length ≤ 900000) (hL : b.L.length + l.length ≤ 900000) :
    Steps9 n fsW (.pointer (some ⟨B, 0, none⟩)) lv EB SB (fun j W => ∃ tag', IW tag base o D B b lv l W0 j W tag') (EW tag base o D B b l W0) := by
  obtain ⟨m1, m2, m3, m4⟩ := Nb.lay l hnb
  refine ⟨?_, ?_, ?_, ?_, ?_⟩
  · rintro j hj W ⟨tag', hI⟩
    rw [(stepR_cell hI.step hSB htS j).1]; exact hcS j hj
  · intro j hj
    match j with
    | 0 => exact enters_lay
    | 1 => exact enters_seal
    | 2 => exact enters_keep
    | j + 3 => exact enters_dis
  · rintro j hj W ⟨tag', hI⟩
    have hbW : base ≤ W.heap.size := Nat.le_trans hbase hI.step.below.size
    match j with
    | 0 =>
      refine (blay_ok W tag' base o D B ho b hI.bk hbW lv l (hI.far (by omega)) hf q hnb hq hout hrec).mono ?_
      rintro e w' ⟨tag2, h1, h2, rfl⟩
      have h3 := hI.step.trans (h1.wide (Nat.le_refl o) (by omega))
      by_cases hE : layE b.s b.t l = 0
      · left
        exact ⟨by rw [hE]; rfl, tag2, h3, h2, fun _ => (hI.far (by omega)).step h1 (Nat.le_refl _) (Nat.le_refl _), fun _ => hE, fun h => absurd h (by omega)⟩
      · right
        refine ⟨layE b.s b.t l, stepEnd_no hE, hE, tag2, h3, ?_, ?_⟩
        · unfold wrtS wrtT; rw [if_pos hE, if_pos hE]; exact h2
        · unfold wrtE; rw [if_pos hE]
    | 1 =>
      have hE := hI.e1 (by omega)
      have hbk := hI.bk
      refine (bseal_ok W tag' base o D B _ hbk hbW lv (q + l.length) m1 hq (Nat.le_trans m4 hout)).mono ?_
      rintro e w' ⟨tag2, h1, h2, rfl⟩
      have h3 := hI.step.trans (h1.wide (Nat.le_refl o) (by omega))
      have hw : wrtE b.s b.t l = errC (layS b.s b.t l).out := by unfold wrtE; rw [if_neg (by simpa using hE)]
      have hS : wrtS b.s b.t l = (layS b.s b.t l).sync := by unfold wrtS; rw [if_neg (by simpa using hE)]
      have hT : wrtT b.s b.t l = synT (layS b.s b.t l) (layT b.s b.t l) := by unfold wrtT; rw [if_neg (by simpa using hE)]
      have h2' : BK w' tag2 base o D B ⟨wrtS b.s b.t l, wrtT b.s b.t l, b.L, b.D⟩ := by rw [hS, hT]; exact h2
      have hw' : errC (stW b l 1).s.out = wrtE b.s b.t l := hw.symm
      rw [hw']
      by_cases hz : wrtE b.s b.t l = 0
      · left
        exact ⟨by rw [hz]; rfl, tag2, h3, h2', fun _ => (hI.far (by omega)).step h1 (Nat.le_refl _) (Nat.le_refl _), fun _ => hE, fun _ => hz⟩
      · right
        exact ⟨_, stepEnd_no hz, hz, tag2, h3, h2', rfl⟩
    | 2 =>
      have hbk := hI.bk
      refine (bkeep_ok W tag' base o D B _ hbk hbW lv l (hI.far (by omega)).win (by show b.L.length + l.length ≤ _; omega)).mono ?_
      rintro e w' ⟨tag2, h1, h2, rfl⟩
      exact .inl ⟨rfl, tag2, hI.step.trans (h1.wide (by omega) (Nat.le_refl _)), h2, fun h => absurd h (by omega), fun _ => hI.e1 (by omega), fun _ => hI.e2 (by omega)⟩
    | 3 =>
      have hbk := hI.bk
      refine (bdis_ok W tag' base o D B _ hbk lv).mono ?_
      rintro e w' ⟨tag2, h1, h2, rfl⟩
      exact .inl ⟨rfl, tag2, hI.step.trans (h1.wide (by omega) (Nat.le_refl _)), h2, fun h => absurd h (by omega), fun _ => hI.e1 (by omega), fun _ => hI.e2 (by omega)⟩
    | j + 4 => omega
  · rintro j hj W ⟨tag', hI⟩
    have := stepR_cell hI.step hEB htE 0
    exact ⟨by rw [this.1]; exact hcE, by rw [this.2]; exact hfE⟩
  · rintro x W ⟨tag', h1, _⟩
    have := stepR_cell h1 hEB htE 0
    exact ⟨by rw [this.1]; exact hcE, by rw [this.2]; exact hfE⟩

/-- The book's shape behind the take's last store. -/
theorem bk_last {w W0 W : World} {tag tag' : Nat → Nat} {base o hi D B : Nat} (ho : 1 ≤ o) {b : Bm} (hbase : base ≤ w.heap.size) (hB : Below w.heap.size w W0) (h1 : StepR (clip tag w.heap.size) tag' base o hi W0 W) (h2 : BK W tag' base o D B b) {g : Nat} (hg1 : w.heap.size ≤ g) (hg2 : g < W0.heap.size) (v : Value) :
    StepR tag tag' base o hi w (W.setCell ⟨g, 0, none⟩ v) ∧ BK (W.setCell ⟨g, 0, none⟩ v) tag' base o D B b := by
  have hs := hB.size
  have htg : tag' g / 16 = 0 := by rw [h1.tags g hg2]; simp [clip, Nat.not_lt.2 hg1]
  have hst : Step tag' tag' base 0 W (W.setCell ⟨g, 0, none⟩ v) := step_set tag' base 0 W (Nat.le_trans hbase hg1) htg 0 v
  have h0 := (stepR_clip tag base o hi hbase hB).trans h1
  refine ⟨⟨h0.below.trans hst.below, h0.tags, fun k hk hne => ?_⟩, h2.otherR (hst.range (lo := 0) (hi := 0) (Nat.le_refl _) (Nat.le_refl _)) (by omega)⟩
  rw [heap_setCell_other _ _ k _ (by show k ≠ g; omega)]
  exact h0.kept k hk hne

set_option maxHeartbeats 2000000 in
theorem bwrite_ok (w : World) (tag : Nat → Nat) (base o D B : Nat) (ho : 1 ≤ o) (b : Bm) (h : BK w tag base o D B b) (hbase : base ≤ w.heap.size) (lv : Value) (l : List En) (hl : Far w tag o (o + 1) lv l) (hf : Fine l) (q : Nat) (hn : Nb b.s b.t q)
    (hq : q + l.length ≤ 900000) (hout : b.s.outs.length ≤ 900000) (hrec : b.t.recs.length + l.length ≤ 900000) (hL : b.L.length + l.length ≤ 900000) :
    Calls Tryz.prog 33 #[.pointer (some ⟨B, 0, none⟩), lv] w fun e w' => e = .returned (.int .i64 (wrtE b.s b.t l)) ∧ ∃ tag', StepR tag tag' base o (o + 2) w w' ∧
      BK w' tag' base o D B (wrB b l) := by
  have hmf : ∀ (fn : Fn) (first cap : Array Value) (w : World), (Instr.makeFunc fn first cap).run Tryz.prog w = .ok (.func fn first cap) w := fun _ _ _ _ => rfl
  obtain ⟨w1, hw1⟩ : ∃ w1, w1 = w.alloc (.cells #[.func (.func 50) #[.pointer (some ⟨B, 0, none⟩)] #[], .func (.func 51) #[.pointer (some ⟨B, 0, none⟩)] #[], .func (.func 52) #[.pointer (some ⟨B, 0, none⟩)] #[]] 150) := ⟨_, rfl⟩
  obtain ⟨W0, hW0⟩ : ∃ W0, W0 = w1.alloc (.cells #[.int .i64 0] 26) := ⟨_, rfl⟩
  have hs1 : w1.heap.size = w.heap.size + 1 := by rw [hw1]; simp
  have hs0 : W0.heap.size = w.heap.size + 2 := by rw [hW0]; simp [hs1]
  have hB1 : Below w.heap.size w w1 := by rw [hw1]; exact below_alloc _ _
  have hB0 : Below w.heap.size w W0 := by rw [hW0]; exact hB1.trans ((below_alloc w1 _).mono (by omega))
  have hcl : ∀ g, w.heap.size ≤ g → clip tag w.heap.size g / 16 < o := fun g hg => by simp [clip, Nat.not_lt.2 hg]; omega
  have hcE : W0.cell? ⟨w.heap.size + 1, 0, none⟩ = some (.int .i64 0) := by rw [hW0, ← hs1]; simp
  have hfE : W0.frozen? ⟨w.heap.size + 1, 0, none⟩ = false := by rw [hW0, ← hs1]; simp
  have hcS : ∀ j, j < 3 → W0.cell? ⟨w.heap.size, j, none⟩ = some (.func (.func (fsW j)) #[.pointer (some ⟨B, 0, none⟩)] #[]) := by
    intro j hj
    have : w1.cell? ⟨w.heap.size, j, none⟩ = some (.func (.func (fsW j)) #[.pointer (some ⟨B, 0, none⟩)] #[]) := by
      rw [hw1]
      match j, hj with
      | 0, _ => simp; rfl
      | 1, _ => simp; rfl
      | 2, _ => simp; rfl
    rw [hW0]; exact cell_later (below_alloc w1 _) this
  have hSt := steps_w 3 (by omega) (clip tag w.heap.size) base o D B ho b lv l W0 (by omega) w.heap.size (w.heap.size + 1) (by omega) (by omega) (hcl _ (Nat.le_refl _)) (hcl _ (by omega)) hcS hcE hfE q hn hf hq hout hrec hL
  have hI0 : IW (clip tag w.heap.size) base o D B b lv l W0 0 W0 (clip tag w.heap.size) := ⟨StepR.refl _ _ _ _ _, h.new hB0, fun _ => hl.new hB0, fun h => absurd h (by omega), fun h => absurd h (by omega)⟩
  rw [← hs1] at hSt
  have HT := btake_any 3 3 (Nat.le_refl _) (by decide) fsW (.pointer (some ⟨B, 0, none⟩)) lv w.heap.size w1 _ _ hSt ⟨_, by rw [← hW0]; exact hI0⟩
  rw [hw1] at HT
  have HFin : Hid (∀ x W, ((x = 0 ∧ ∃ tag', IW (clip tag w.heap.size) base o D B b lv l W0 3 W tag') ∨ (x ≠ 0 ∧ EW (clip tag w.heap.size) base o D B b l W0 x W)) → x = wrtE b.s b.t l ∧ ∃ tag', StepR tag tag' base o (o + 2) w (W.setCell ⟨w.heap.size + 1, 0, none⟩ (.int .i64 x)) ∧
      BK (W.setCell ⟨w.heap.size + 1, 0, none⟩ (.int .i64 x)) tag' base o D B (wrB b l)) := by
    rintro x W (⟨rfl, tag', hI⟩ | ⟨hx, tag', h1, h2, rfl⟩)
    · have hz := hI.e2 (by omega)
      obtain ⟨k1, k2⟩ := bk_last ho hbase hB0 hI.step hI.bk (g := w.heap.size + 1) (by omega) (by omega) (.int .i64 0)
      exact ⟨hz.symm, tag', k1, by unfold wrB; rw [if_pos hz]; exact k2⟩
    · obtain ⟨k1, k2⟩ := bk_last ho hbase hB0 h1 h2 (g := w.heap.size + 1) (by omega) (by omega) (.int .i64 (wrtE b.s b.t l))
      exact ⟨rfl, tag', k1, by unfold wrB; rw [if_neg hx]; exact k2⟩
  obtain ⟨a, c, rfl, _⟩ := win_form hl.win
  clear h hl hSt hI0 hcS hcE hfE hB0 hB1 hcl hn hf
  go_enter Tryz.func33, Tryz.ntmps33
  go_wp2_with fail
  refine (by exact HT : Calls _ _ _ _ _).mono ?_
  rintro e w' ⟨x, W, rfl, rfl, hx⟩
  have hfin := HFin.out x W hx
  rw [← hw1, hs1]
  clear hx HT HFin
  obtain ⟨rfl, hfin⟩ := hfin
  go_wp2
  go_ret
  exact ⟨rfl, hfin⟩

end Go.Proofs.YtafkkehcacdodaaGreat

namespace Go.Proofs.YtafkkehcacdodaaGreat
open Go.RowKit

theorem paid_ok3 (b : Bm) (h : wrtE b.s b.t b.D = 0) : b.paid = stW b b.D 4 := by
  unfold Bm.paid stW
  rw [if_pos h, if_pos h]
  rfl

theorem paid_no (b : Bm) (h : wrtE b.s b.t b.D ≠ 0) : b.paid = ⟨wrtS b.s b.t b.D, wrtT b.s b.t b.D, b.L, b.D⟩ := by
  unfold Bm.paid
  rw [if_neg h, if_neg h]

set_option maxHeartbeats 2000000 in
theorem bpay_ok (w : World) (tag : Nat → Nat) (base o D B : Nat) (ho : 1 ≤ o) (b : Bm) (h : BK w tag base o D B b) (hbase : base ≤ w.heap.size) (q : Nat) (hb : b.Ok q)
    (hq : q ≤ 800000) (hout : b.s.outs.length ≤ 900000) (hrec : b.t.recs.length ≤ 800000) (hL : b.L.length ≤ 800000) :
    Calls Tryz.prog 19 #[.pointer (some ⟨B, 0, none⟩)] w fun e w' => e = .returned (.int .i64 b.payE) ∧ ∃ tag', StepR tag tag' base o (o + 2) w w' ∧ BK w' tag' base o D B b.pay := by
  have hmf : ∀ (fn : Fn) (first cap : Array Value) (w : World), (Instr.makeFunc fn first cap).run Tryz.prog w = .ok (.func fn first cap) w := fun _ _ _ _ => rfl
  have HM := bmade_ok w tag base o D B b h
  obtain ⟨p, q', kv, dv, hD, hP, hPo, hPb⟩ := h
  have g2 := hPb.s2
  obtain ⟨a, c, rfl, hc1, hc2⟩ := win_form hPb.wD
  unfold maxLen at hc2
  have hBK : BK w tag base o D B b := ⟨p, q', kv, _, hD, hP, hPo, hPb⟩
  have hd1 := hb.d1
  by_cases hDe : b.D = []
  · have hl0 : b.D.length = 0 := by rw [hDe]; rfl
    have HP : Hid (b.payE = 0 ∧ b.pay = b) := ⟨if_pos hDe, if_pos hDe⟩
    have HB : Hid (BK w tag base o D B b) := hBK
    rw [hl0] at g2
    clear hP hPo hPb hBK hDe
    go_enter Tryz.func19, Tryz.ntmps19
    go_wp2_with fail
    refine HM.mono ?_
    rintro e w' ⟨rfl, rfl⟩
    go_wp2
    go_ret
    exact ⟨by rw [HP.out.1]; rfl, tag, StepR.refl _ _ _ _ _, by rw [HP.out.2]; exact HB.out⟩
  have hl1 : b.D.length ≠ 0 := fun e => hDe (List.eq_nil_of_length_eq_zero e)
  have hl1I : ¬ (b.D.length : Int) = 0 := by omega
  obtain ⟨w1, hw1⟩ : ∃ w1, w1 = w.alloc (.cells #[.func (.func 50) #[.pointer (some ⟨B, 0, none⟩)] #[], .func (.func 51) #[.pointer (some ⟨B, 0, none⟩)] #[], .func (.func 52) #[.pointer (some ⟨B, 0, none⟩)] #[], .func (.func 53) #[.pointer (some ⟨B, 0, none⟩)] #[]] 150) := ⟨_, rfl⟩
  obtain ⟨W0, hW0⟩ : ∃ W0, W0 = w1.alloc (.cells #[.int .i64 0] 26) := ⟨_, rfl⟩
  have hs1 : w1.heap.size = w.heap.size + 1 := by rw [hw1]; simp
  have hs0 : W0.heap.size = w.heap.size + 2 := by rw [hW0]; simp [hs1]
  have hB1 : Below w.heap.size w w1 := by rw [hw1]; exact below_alloc _ _
  have hB0 : Below w.heap.size w W0 := by rw [hW0]; exact hB1.trans ((below_alloc w1 _).mono (by omega))
  have hcl : ∀ g, w.heap.size ≤ g → clip tag w.heap.size g / 16 < o := fun g hg => by simp [clip, Nat.not_lt.2 hg]; omega
  have hcE : W0.cell? ⟨w.heap.size + 1, 0, none⟩ = some (.int .i64 0) := by rw [hW0, ← hs1]; simp
  have hfE : W0.frozen? ⟨w.heap.size + 1, 0, none⟩ = false := by rw [hW0, ← hs1]; simp
  have hcS : ∀ j, j < 4 → W0.cell? ⟨w.heap.size, j, none⟩ = some (.func (.func (fsW j)) #[.pointer (some ⟨B, 0, none⟩)] #[]) := by
    intro j hj
    have : w1.cell? ⟨w.heap.size, j, none⟩ = some (.func (.func (fsW j)) #[.pointer (some ⟨B, 0, none⟩)] #[]) := by
      rw [hw1]
      match j, hj with
      | 0, _ => simp; rfl
      | 1, _ => simp; rfl
      | 2, _ => simp; rfl
      | 3, _ => simp; rfl
    rw [hW0]; exact cell_later (below_alloc w1 _) this
  have hFar : Far w tag o (o + 1) (.slice a b.D.length c) b.D := ⟨hPb.wD, fun g hg => .inr (by have := (hPb.tD g hg).1; omega)⟩
  have hSt := steps_w 4 (by omega) (clip tag w.heap.size) base o D B ho b (.slice a b.D.length c) b.D W0 (by omega) w.heap.size (w.heap.size + 1) (by omega) (by omega) (hcl _ (Nat.le_refl _)) (hcl _ (by omega)) hcS hcE hfE q hb.nb hb.fD (by omega) hout (by omega) (by omega)
  have hI0 : IW (clip tag w.heap.size) base o D B b (.slice a b.D.length c) b.D W0 0 W0 (clip tag w.heap.size) := ⟨StepR.refl _ _ _ _ _, hBK.new hB0, fun _ => hFar.new hB0, fun h => absurd h (by omega), fun h => absurd h (by omega)⟩
  rw [← hs1] at hSt
  have HT := btake_any 4 4 (Nat.le_refl _) (by decide) fsW (.pointer (some ⟨B, 0, none⟩)) (.slice a b.D.length c) w.heap.size w1 _ _ hSt ⟨_, by rw [← hW0]; exact hI0⟩
  rw [hw1] at HT
  have HFin : Hid (∀ x W, ((x = 0 ∧ ∃ tag', IW (clip tag w.heap.size) base o D B b (.slice a b.D.length c) b.D W0 4 W tag') ∨ (x ≠ 0 ∧ EW (clip tag w.heap.size) base o D B b b.D W0 x W)) → x = b.payE ∧ ∃ tag', StepR tag tag' base o (o + 2) w (W.setCell ⟨w.heap.size + 1, 0, none⟩ (.int .i64 x)) ∧
      BK (W.setCell ⟨w.heap.size + 1, 0, none⟩ (.int .i64 x)) tag' base o D B b.pay) := by
    have hpE : b.payE = wrtE b.s b.t b.D := if_neg hDe
    have hpB : b.pay = b.paid := if_neg hDe
    rw [hpE, hpB]
    rintro x W (⟨rfl, tag', hI⟩ | ⟨hx, tag', h1, h2, rfl⟩)
    · have hz := hI.e2 (by omega)
      obtain ⟨k1, k2⟩ := bk_last ho hbase hB0 hI.step hI.bk (g := w.heap.size + 1) (by omega) (by omega) (.int .i64 0)
      exact ⟨hz.symm, tag', k1, by rw [paid_ok3 b hz]; exact k2⟩
    · obtain ⟨k1, k2⟩ := bk_last ho hbase hB0 h1 h2 (g := w.heap.size + 1) (by omega) (by omega) (.int .i64 (wrtE b.s b.t b.D))
      exact ⟨rfl, tag', k1, by rw [paid_no b hx]; exact k2⟩
  clear hP hPo hPb hBK hFar hSt hI0 hcS hcE hfE hB0 hB1 hcl hb hDe
  go_enter Tryz.func19, Tryz.ntmps19
  go_wp2_with fail
  refine HM.mono ?_
  rintro e w' ⟨rfl, hx⟩
  rw [hx]
  clear hx
  go_wp2_with fail
  refine (by exact HT : Calls _ _ _ _ _).mono ?_
  rintro e w' ⟨x, W, rfl, rfl, hx⟩
  have hfin := HFin.out x W hx
  rw [← hw1, hs1]
  clear hx HT HFin
  obtain ⟨rfl, hfin⟩ := hfin
  go_wp2
  go_ret
  exact ⟨rfl, hfin⟩

set_option maxHeartbeats 1000000 in
theorem bsettle_ok (w : World) (tag : Nat → Nat) (base o D B : Nat) (ho : 1 ≤ o) (b : Bm) (h : BK w tag base o D B b) (hbase : base ≤ w.heap.size) (lv : Value) (q : Nat) (hb : b.Ok q)
    (hq : q ≤ 800000) (hout : b.s.outs.length ≤ 900000) (hrec : b.t.recs.length ≤ 800000) (hL : b.L.length ≤ 800000) :
    Calls Tryz.prog 84 #[.pointer (some ⟨B, 0, none⟩), lv] w fun e w' => ∃ tag', StepR tag tag' base o (o + 2) w w' ∧ BK w' tag' base o D B b.pay ∧ e = stepEnd b.payE := by
  have HP := bpay_ok w tag base o D B ho b h hbase q hb hq hout hrec hL
  have hneed := need_no
  clear h
  by_cases hE : b.payE = 0
  · rw [hE] at HP ⊢
    go_enter Tryz.func84, Tryz.ntmps84
    go_wp2_with fail
    refine HP.mono ?_
    rintro e w1 ⟨rfl, tag1, h1, h2⟩
    go_wp2_with fail
    refine (by exact hneed _ : Calls _ _ _ _ _).mono ?_
    rintro e w2 ⟨rfl, rfl⟩
    go_wp2
    go_end0
    exact ⟨tag1, h1, h2, rfl⟩
  · have hyes := fun w1 => need_yes b.payE w1 hE
    have hEnd := stepEnd_no hE
    go_enter Tryz.func84, Tryz.ntmps84
    go_wp2_with fail
    refine HP.mono ?_
    rintro e w1 ⟨rfl, tag1, h1, h2⟩
    go_wp2_with fail
    refine (by exact hyes _ : Calls _ _ _ _ _).mono ?_
    rintro e w2 ⟨rfl, rfl⟩
    go_wp2
    exact ⟨rfl, tag1, h1, h2, hEnd.symm⟩

/-- may of one entry. -/
theorem bmay_ok (w : World) (p lv : Value) (e : En) (h : Win w 5 lv 1 (eL5 e)) :
    Calls Tryz.prog 83 #[p, lv] w fun x w' => Below w.heap.size w w' ∧ x = stepEnd (checkE e) := by
  have hE : Hid (∃ B O c, lv = .slice (some ⟨B, O, none⟩) 1 c ∧ 1 ≤ c ∧ c ≤ maxLen ∧ EnAt w B O e) := by
    show ∃ _, _
    have := win_ens (w := w) (v := lv) (l := [e]) (by simpa using h)
    obtain ⟨B, O, ⟨a, c, h1, h2, h3, h4, h5⟩, _⟩ := this
    have h5 := h5 0 e rfl
    rw [Nat.zero_mul, Nat.add_zero] at h5
    rcases h4 with rfl | h4
    · exact ⟨B, O, c, h1, h2, h3, h5⟩
    · cases h4
  clear h
  obtain ⟨B, O, c, rfl, hc1, hc2, c0, c1, c2, c3, c4⟩ := hE.out
  unfold maxLen at hc2
  clear hE
  have hcheck := fun w1 => echeck_any e w1
  have hneed := need_no
  have HCk : Hid (checkE e = 0 ∨ checkE e = 1) := check_cases e
  generalize checkE e = X at *
  obtain ⟨k0, k1, k2, k3, k4⟩ := e
  simp only at c0 c1 c2 c3 c4
  go_enter Tryz.func83, Tryz.ntmps83
  go_wp2_with fail
  go_loopg [8] 1 (fun gk i wr => ∃ k : Nat, k + gk = 1 ∧ i = .int .i64 k ∧ Below w.heap.size w wr ∧ (k = 1 → X = 0))
  case atStart => exact ⟨0, by omega, rfl, Below.refl _ _, fun h => absurd h (by decide)⟩
  case round =>
    obtain ⟨k, hk, rfl, hB, hz⟩ := hrel
    by_cases hlt : k < 1
    case neg =>
      have hk1 : k = 1 := by omega
      subst hk1
      have hX := hz rfl
      subst hX
      go_wp2
      go_end0
      exact ⟨hB, rfl⟩
    have hk0 : k = 0 := by omega
    subst hk0
    have c0 := cell_later hB c0
    have c1 := cell_later hB c1
    have c2 := cell_later hB c2
    have c3 := cell_later hB c3
    have c4 := cell_later hB c4
    have hB2 := hB.trans ((below_alloc wr (.cells #[.int .i64 k0, .int .i64 k1, .int .u32 k2, .int .u32 k3, .int .i64 k4] 73)).mono hB.size)
    go_wp2_with fail
    refine (by exact hcheck _ : Calls _ _ _ _ _).mono ?_
    rintro e w1 ⟨rfl, hb1⟩
    have hB2 := hB2.trans (hb1.mono hB2.size)
    have hyes := need_yes 1 w1 (by decide)
    rcases HCk.out with hX | hX
    · subst hX
      go_wp2_with fail
      refine (by exact hneed _ : Calls _ _ _ _ _).mono ?_
      rintro e w1' ⟨rfl, hx⟩
      rw [hx]
      clear hx
      go_wp2
      go_roundg 0
      case rel => exact ⟨1, by omega, by go_num, hB2, by simp⟩
      case measure => omega
    · subst hX
      go_wp2_with fail
      refine (by exact hyes : Calls _ _ _ _ _).mono ?_
      rintro e w1' ⟨rfl, hx⟩
      rw [hx]
      clear hx
      go_wp2
      exact ⟨rfl, hB2, rfl⟩

end Go.Proofs.YtafkkehcacdodaaGreat
