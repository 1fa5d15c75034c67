/- What the document's Open appends: a row of its own; how far it got. -/
import Derived.Test.YtafkkehcacdodaaGreatBokRopen
import Derived.Test.YtafkkehcacdodaaGreatBokRead
set_option maxRecDepth 100000
namespace Go.Proofs.YtafkkehcacdodaaGreat
open Go.RowKit Go.Shelf

/-- The row of what is to be appended: its tag is nobody's. -/
def MoreR (w wr : World) (tag : Nat → Nat) (base : Nat) (v : Value) (L : List En) : Prop := Win wr 5 v L.length (L.flatMap eL5) ∧ ∀ g, v.ownBlock = some g → (tag g = 641 ∧ base ≤ g) ∧ w.heap.size ≤ g

section
variable {w wr wr' : World} {tag tag' : Nat → Nat} {base : Nat} {v : Value} {L : List En}

theorem MoreR.new (h : MoreR w wr tag base v L) (hb : Below wr.heap.size wr wr') : MoreR w wr' (clip tag wr.heap.size) base v L :=
  ⟨h.1.later hb, fun g hg => by rw [clip_lt _ _ _ (h.1.lt g hg)]; exact h.2 g hg⟩

theorem MoreR.step {lo hi : Nat} (h : MoreR w wr tag base v L) (hS : StepR tag tag' base lo hi wr wr') (hh : hi < 40) : MoreR w wr' tag' base v L :=
  ⟨h.1.same (fun g hg => hS.kept g (h.1.lt g hg) (by rw [(h.2 g hg).1.1]; omega)), fun g hg => by rw [hS.tags g (h.1.lt g hg)]; exact h.2 g hg⟩

/-- One more of them. -/
theorem MoreR.push {o lo hi M T B : Nat} {b : Bm} {tag0 : Nat → Nat} (ho2 : o + 2 < 40) (h : MoreR w wr tag base v L) (hS : StepR tag0 tag base lo hi w wr) (hK : RKT wr tag base o M T B b) (hbase : base ≤ w.heap.size) (hl : L.length ≤ 900000) (r : En) :
    ∃ a c a5 c5 w5 tag5, v = .slice a L.length c ∧ (Builtin.append_ #[63, 63] 63 #[.slice a L.length c, .slice (some ⟨wr.heap.size, 0, none⟩) 1 1]).run Tryz.prog (wr.alloc (.cells (enC r) 73)) = .ok (.slice a5 (L.length + 1) c5) w5 ∧
      MoreR w w5 tag5 base (.slice a5 (L.length + 1) c5) (L ++ [r]) ∧ StepR tag0 tag5 base lo hi w w5 ∧ RKT w5 tag5 base o M T B b ∧ (∀ g, g < wr.heap.size → tag g / 16 ≠ 40 → w5.heap[g]? = wr.heap[g]? ∧ tag5 g = tag g) ∧ wr.heap.size ≤ w5.heap.size := by
  obtain ⟨a, c, hv, hc1, hc2⟩ := win_form h.1
  have hB := below_alloc wr (.cells (enC r) 73)
  have hbr : base ≤ wr.heap.size := Nat.le_trans hbase hS.below.size
  obtain ⟨a5, c5, w5, hr, hwin5, hkp, hown, hg⟩ := append_w wr v L r h.1 hl
  have hws := hS.below.size
  have hs5 : wr.heap.size ≤ w5.heap.size := Nat.le_trans hB.size hg.size
  obtain ⟨tag5, ht5⟩ : ∃ t, t = retag (clip tag wr.heap.size) (.slice a5 (L.length + 1) c5) 641 := ⟨_, rfl⟩
  have hown5 : ∀ g, (Value.slice a5 (L.length + 1) c5).ownBlock = some g → tag5 g = 641 := fun g hg => by rw [ht5]; simp [retag, hg]
  have hts : ∀ k, k < wr.heap.size → tag5 k = tag k := fun k hk => by
    by_cases e : (Value.slice a5 (L.length + 1) c5).ownBlock = some k
    · rw [hown5 k e]
      rcases hown k e with e1 | e1
      · exact ((h.2 k e1).1.1).symm
      · omega
    · rw [ht5]
      unfold retag
      rw [if_neg e, clip_lt _ _ _ hk]
  have hst : StepR tag tag5 base 40 40 wr w5 := ⟨(hB.mono hbr).grown hg (Nat.le_trans hbr hB.size) (fun k hk => (h.2 k hk).1.2), hts, fun k hk hne => hkp k hk (fun e => by have := (h.2 k e).1.1; omega)⟩
  refine ⟨a, c, a5, c5, w5, tag5, hv, by rw [← hv]; exact hr, ⟨?_, fun g hgv => ?_⟩, ⟨hS.below.trans hst.below, fun k hk => (hts k (by omega)).trans (hS.tags k hk), fun k hk hne => (hkp k (by omega) (fun e => by have := (h.2 k e).2; omega)).trans (hS.kept k hk hne)⟩, ?_, fun g hlt hne => ⟨hst.kept g hlt (by omega), hts g hlt⟩, hs5⟩
  · have hl5 : (L ++ [r]).length = L.length + 1 := by simp
    rw [hl5] at hwin5 ⊢
    exact hwin5
  · rcases hown g hgv with e1 | e1
    · exact ⟨⟨hown5 g hgv, (h.2 g e1).1.2⟩, (h.2 g e1).2⟩
    · exact ⟨⟨hown5 g hgv, by omega⟩, by omega⟩
  · obtain ⟨p, q, kv, dv, h0, hT, k1, k2, k3⟩ := hK
    exact ⟨p, q, kv, dv, h0, hT, k1.otherR hst (by omega), k2.otherR hst (by omega), k3.otherR hst (by omega)⟩

end

theorem sps_row3 {w : World} {base : Nat} {v : Value} {l : List Sp} (h : SpRow w base v l) : ∃ B O, Sps w v B O l ∧ (l ≠ [] → base ≤ B ∧ B < w.heap.size) := by
  obtain ⟨a, cap, rfl, h2, h3, h4⟩ := ownsRow_shape h
  rcases h4 with h4 | ⟨g, rfl⟩
  · have hl : l = [] := List.eq_nil_of_length_eq_zero h4
    subst hl
    exact ⟨0, 0, ⟨a, cap, rfl, h2, h3, .inr rfl, fun i s hs => by simp at hs⟩, fun hne => absurd rfl hne⟩
  · refine ⟨g, 0, ⟨_, cap, rfl, h2, h3, .inl rfl, fun i s hs => ?_⟩, fun _ => h.lt g rfl⟩
    rw [Nat.zero_add]
    exact spRow_at h rfl hs

theorem sps_same3 {w w' : World} {v : Value} {B O : Nat} {l : List Sp} (h : Sps w v B O l) (hk : l ≠ [] → w'.heap[B]? = w.heap[B]?) : Sps w' v B O l := by
  obtain ⟨a, cap, h1, h2, h3, h4, h5⟩ := h
  refine ⟨a, cap, h1, h2, h3, h4, fun i s hs => ?_⟩
  have hne : l ≠ [] := fun e => by rw [e] at hs; simp at hs
  have hb := hk hne
  obtain ⟨c0, c1, c2, c3, c4, c5⟩ := h5 i s hs
  have hc : ∀ o, w'.cell? ⟨B, o, none⟩ = w.cell? ⟨B, o, none⟩ := fun o => by unfold World.cell?; simp only [hb]
  exact ⟨(hc _).trans c0, (hc _).trans c1, (hc _).trans c2, (hc _).trans c3, (hc _).trans c4, (hc _).trans c5⟩

theorem lay_cons (s : St) (t : Sd) (e : En) (r : List En) : layE s t (e :: r) = (if appE s t (bytesE e) ≠ 0 then appE s t (bytesE e) else layE (appS s t (bytesE e)) (appT s t (bytesE e)) r) ∧ layS s t (e :: r) = (if appE s t (bytesE e) ≠ 0 then appS s t (bytesE e) else layS (appS s t (bytesE e)) (appT s t (bytesE e)) r) ∧ layT s t (e :: r) = (if appE s t (bytesE e) ≠ 0 then appT s t (bytesE e) else layT (appS s t (bytesE e)) (appT s t (bytesE e)) r) := ⟨rfl, rfl, rfl⟩

/-- So far, when some entries were appended. -/
structure RLaid (s : St) (l : List En) (k : Nat) (sk : St) (tk : Sd) : Prop where
  nb : Nb sk tk (700000 + k)
  eE : layE s (openT s) l = layE sk tk (l.drop k)
  eS : layS s (openT s) l = layS sk tk (l.drop k)
  eT : layT s (openT s) l = layT sk tk (l.drop k)
  outs : sk.outs.length ≤ 700000
  recs : tk.recs.length ≤ 32768 + k

theorem MoreR.ens {w wr : World} {tag : Nat → Nat} {base : Nat} {v : Value} {L : List En} (h : MoreR w wr tag base v L) : ∃ B O, Ens wr v B O L := by
  obtain ⟨B, O, hE, _⟩ := win_ens h.1
  exact ⟨B, O, hE⟩

theorem rlaid_new (s : St) (l : List En) (hn : Nb s (openT s) 700000) (ho : s.outs.length ≤ 700000) (hr : (openT s).recs.length ≤ 32768) : RLaid s l 0 s (openT s) :=
  ⟨hn, rfl, rfl, rfl, ho, hr⟩

theorem drop_at {l : List En} {k : Nat} {e : En} (he : l[k]? = some e) : l.drop k = e :: l.drop (k + 1) := by
  obtain ⟨hk, rfl⟩ := List.getElem?_eq_some_iff.1 he
  exact List.drop_eq_getElem_cons hk

theorem RLaid.err {s : St} {l : List En} {k : Nat} {sk : St} {tk : Sd} {e : En} (h : RLaid s l k sk tk) (he : l[k]? = some e) (hE : appE sk tk (bytesE e) ≠ 0) :
    wrtE s (openT s) l = appE sk tk (bytesE e) ∧ wrB (b0 s) l = ⟨appS sk tk (bytesE e), appT sk tk (bytesE e), startL s, []⟩ := by
  have h1 := h.eE
  have h2 := h.eS
  have h3 := h.eT
  rw [drop_at he] at h1 h2 h3
  obtain ⟨c1, c2, c3⟩ := lay_cons sk tk e (l.drop (k + 1))
  rw [c1, if_pos hE] at h1
  rw [c2, if_pos hE] at h2
  rw [c3, if_pos hE] at h3
  have hw : wrtE s (openT s) l = appE sk tk (bytesE e) := by unfold wrtE; rw [h1, if_pos hE]
  refine ⟨hw, ?_⟩
  unfold wrB b0 wrtS wrtT
  dsimp only
  rw [hw, h1, h2, h3, if_pos hE, if_pos hE, if_neg hE]

theorem RLaid.next {s : St} {l : List En} {k : Nat} {sk : St} {tk : Sd} {e : En} (h : RLaid s l k sk tk) (he : l[k]? = some e) (hE : appE sk tk (bytesE e) = 0) :
    RLaid s l (k + 1) (appS sk tk (bytesE e)) (appT sk tk (bytesE e)) := by
  have h1 := h.eE
  have h2 := h.eS
  have h3 := h.eT
  rw [drop_at he] at h1 h2 h3
  obtain ⟨c1, c2, c3⟩ := lay_cons sk tk e (l.drop (k + 1))
  have hn : ¬ appE sk tk (bytesE e) ≠ 0 := fun h => h hE
  rw [c1, if_neg hn] at h1
  rw [c2, if_neg hn] at h2
  rw [c3, if_neg hn] at h3
  obtain ⟨n1, n2, n3⟩ := h.nb.app (bytesE e) (bytesE_bytes e)
  have hr := h.recs
  exact ⟨n1, h1, h2, h3, Nat.le_trans (outs_app sk tk (bytesE e)) h.outs, by omega⟩

theorem RLaid.done {s : St} {l : List En} {sk : St} {tk : Sd} (h : RLaid s l l.length sk tk) :
    wrtE s (openT s) l = errC sk.out ∧ wrB (b0 s) l = ⟨sk.sync, synT sk tk, if errC sk.out = 0 then startL s ++ l else startL s, []⟩ := by
  have h1 := h.eE
  have h2 := h.eS
  have h3 := h.eT
  rw [List.drop_of_length_le (Nat.le_refl _)] at h1 h2 h3
  have h1 : layE s (openT s) l = 0 := h1
  have h2 : layS s (openT s) l = sk := h2
  have h3 : layT s (openT s) l = tk := h3
  have hn : ¬ layE s (openT s) l ≠ 0 := fun h => h h1
  have hw : wrtE s (openT s) l = errC sk.out := by unfold wrtE; rw [if_neg hn, h2]
  refine ⟨hw, ?_⟩
  unfold wrB b0 wrtS wrtT
  dsimp only
  rw [hw, if_neg hn, if_neg hn, h2, h3]

end Go.Proofs.YtafkkehcacdodaaGreat
