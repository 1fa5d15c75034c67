/- Opened behind a crash: no span is open; opened once more, the same is found. Plain mathematics. -/
import Derived.Test.YtafkkehcacdodaaGreatBokGrow
set_option maxRecDepth 100000
namespace Go.Proofs.YtafkkehcacdodaaGreat
open Go.RowKit

/-! ### Spans that are shut -/
theorem frm_til (l : List En) : ∀ s ∈ spans l, s.opn = false → s.frm ≤ s.til := by
  unfold spans
  suffices H : ∀ (l : List En) (acc : List Sp), (∀ s ∈ acc, s.opn = false → s.frm ≤ s.til) → ∀ s ∈ l.foldl stepS acc, s.opn = false → s.frm ≤ s.til from H l [] (fun s hs => by cases hs)
  intro l
  induction l with
  | nil => intro acc h; exact h
  | cons e l ih =>
    intro acc h
    refine ih (stepS acc e) ?_
    have hshut : ∀ (o : Option Nat) (t : Int), ∀ s ∈ shutI acc o t, s.opn = false → s.frm ≤ s.til := by
      intro o t s hs
      cases o with
      | none => exact h s hs
      | some i =>
        rcases List.mem_or_eq_of_mem_set hs with h' | rfl
        · exact h s h'
        · intro _; show (acc.getD i default).frm ≤ max (acc.getD i default).frm t; omega
    unfold stepS
    split
    · intro s hs
      rcases List.mem_append.1 hs with hs | hs
      · exact hshut _ _ s hs
      · rw [List.mem_singleton.1 hs]; intro h; cases h
    · split
      · exact hshut _ _
      · exact h

theorem open_rel {S : List Sp} (hU : Uniq S) {e : En} (he : e.kind = 3) {a k : Int} {j : Nat} : OpenAt (stepS S e) a k j ↔ ¬ (a = e.addr ∧ k = e.block) ∧ OpenAt S a k j := by
  have hs : stepS S e = shutI S (openI S e.addr e.block) e.time := by unfold stepS; rw [if_neg (by omega), if_pos he]
  rw [hs, openAt_shutI hU]

theorem open_rels : ∀ (R : List En) {S : List Sp}, Uniq S → (∀ e ∈ R, e.kind = 3) → ∀ {a k : Int} {j : Nat}, OpenAt (R.foldl stepS S) a k j → OpenAt S a k j ∧ ∀ e ∈ R, ¬ (a = e.addr ∧ k = e.block) := by
  intro R
  induction R with
  | nil => intro S _ _ a k j h; exact ⟨h, fun e he => by cases he⟩
  | cons e R ih =>
    intro S hU hk a k j h
    obtain ⟨h1, h2⟩ := ih (uniq_step hU e) (fun x hx => hk x (by simp [hx])) h
    rw [open_rel hU (hk e (by simp))] at h1
    refine ⟨h1.2, fun x hx => ?_⟩
    rcases List.mem_cons.1 hx with rfl | hx
    · exact h1.1
    · exact h2 x hx

theorem spans_app (l m : List En) : spans (l ++ m) = m.foldl stepS (spans l) := by unfold spans; rw [List.foldl_append]

theorem spans_boot (l : List En) (now : Int) : spans (l ++ [bootE now]) = spans l := by
  rw [spans_snoc]
  unfold stepS
  rw [if_neg (by show ¬ (1 : Int) = 2; omega), if_neg (by show ¬ (1 : Int) = 3; omega)]

/-- No span is open. -/
def Shut (S : List Sp) : Prop := ∀ s ∈ S, s.opn = false

theorem ends_kind (S : List Sp) (now : Int) : ∀ e ∈ endsE S now, e.kind = 3 := by
  intro e he
  obtain ⟨s, _, rfl⟩ := List.mem_map.1 he
  rfl

theorem shut_more (L : List En) (now : Int) : Shut (spans (L ++ moreE L now)) := by
  unfold moreE
  rw [← List.append_assoc, spans_boot, spans_app]
  intro s hs
  cases ho : s.opn with
  | false => rfl
  | true =>
    obtain ⟨j, hj⟩ := List.getElem?_of_mem hs
    have h0 : OpenAt ((endsE (spans L) now).foldl stepS (spans L)) s.addr s.block j := ⟨s, hj, ho, rfl, rfl⟩
    obtain ⟨⟨s', hs', o1, o2, o3⟩, h2⟩ := open_rels _ (uniq_spans L) (ends_kind _ now) h0
    exfalso
    refine h2 ⟨3, max now s'.frm, 0, s'.addr, s'.block⟩ ?_ ⟨o2.symm, o3.symm⟩
    unfold endsE
    exact List.mem_map.2 ⟨s', List.mem_filter.2 ⟨List.mem_of_getElem? hs', o1⟩, rfl⟩

theorem shut_ends {L : List En} (h : Shut (spans L)) (now : Int) : moreE L now = [bootE now] := by
  unfold moreE endsE
  have : (spans L).filter (fun s => s.opn) = [] := by
    rw [List.filter_eq_nil_iff]
    intro s hs
    rw [h s hs]; decide
  rw [this]; rfl

/-! ### A disk without failures -/
theorem app_quiet {s : St} (h : s.outs = []) (t : Sd) {b : List Int} (hb : frameE b = 0) : (appE s t b = 0 ∨ appE s t b = 6) ∧ (appS s t b).outs = [] := by
  have ho : s.out = 0 := by unfold St.out; rw [h]; rfl
  refine ⟨?_, ?_⟩
  · unfold appE
    rw [if_neg (by simp [hb])]
    split
    · exact .inr rfl
    · rw [ho]; exact .inl rfl
  · have := outs_app s t b
    rw [h] at this
    exact List.eq_nil_of_length_eq_zero (by simpa using this)

theorem lay_quiet : ∀ (l : List En) {s : St} {t : Sd}, s.outs = [] → Fine l → (layE s t l = 0 ∨ layE s t l = 6) ∧ (layS s t l).outs = [] := by
  intro l
  induction l with
  | nil => intro s t h _; exact ⟨.inl rfl, h⟩
  | cons e r ih =>
    intro s t h hf
    obtain ⟨h1, h2⟩ := app_quiet h t (frameE_bytes (hf e (by simp)).1)
    unfold layE layS
    by_cases he : appE s t (bytesE e) ≠ 0
    · rw [if_pos he, if_pos he]
      exact ⟨h1, h2⟩
    · rw [if_neg he, if_neg he]
      exact ih h2 (fun x hx => hf x (by simp [hx]))

theorem wrt_quiet (l : List En) {s : St} {t : Sd} (h : s.outs = []) (hf : Fine l) : wrtE s t l = 0 ∨ wrtE s t l = 6 := by
  obtain ⟨h1, h2⟩ := lay_quiet l (t := t) h hf
  unfold wrtE
  by_cases he : layE s t l ≠ 0
  · rw [if_pos he]; exact h1
  · rw [if_neg he]
    have ho : (layS s t l).out = 0 := by unfold St.out; rw [h2]; rfl
    rw [ho]; exact .inl rfl

/-! ### Opened behind a crash -/
theorem btw_sub {h : List (List Int)} {G : List Tr} (hb : Btw h G) : h.Sublist (G.map Tr.b) := by
  induction hb with
  | nil => exact .slnil
  | skip x _ _ ih => exact ih.cons _
  | take x _ ih => exact ih.cons_cons _

theorem btw_all {h : List (List Int)} {G : List Tr} (hb : Btw h G) (hs : ∀ x ∈ G, x.su = true) : h = G.map Tr.b := by
  have h1 := btw_sub hb
  have h2 := btw_sures hb
  have h3 : Sures G = G.map Tr.b := by
    unfold Sures
    congr 1
    rw [List.filter_eq_self]; exact hs
  rw [h3] at h2
  exact h1.eq_of_length_le h2.length_le

/-- A disk behind a crash. -/
structure Rest (s : St) : Prop where
  ok : s.Ok
  since : s.since = []
  sure : s.sure = s.now
  outs : s.outs = []
  ops : s.ops = 0

theorem Rest.crash {s : St} (h : s.Ok) (ch : List Int) : Rest (s.crash ch) := ⟨h.crash ch, rfl, rfl, rfl, rfl⟩

theorem Rest.first {s : St} (h : Rest s) : bodies (openT s) = bodK s.now (openT s).pos := by
  obtain ⟨k1, _⟩ := SvF.start h.ok h.since h.sure
  have hF : (openT s).pos ≤ s.n := (openT_ok h.ok).1.pn
  obtain ⟨hh, e1, e2⟩ := Poss.found k1 hF k1.possN
  cases e2
  rw [bodies_bodK, e1, List.append_nil]

/-- What an Open leaves on the disk: its records are behind all that stood there. -/
theorem Rest.opened {s : St} (h : Rest s) {now : Int} : ∃ R : List Tr, R.length ≤ (moreE (startL s) now).length ∧ R.map Tr.b = ((moreE (startL s) now).take R.length).map bytesE ∧
    (∃ hh, bodK (opnS s now).now s.n = bodies (openT s) ++ hh ∧ hh.Sublist (R.map Tr.b)) ∧
    (opnE s now = 0 → ∀ ch, startL ((opnS s now).crash ch) = startL s ++ moreE (startL s) now ∨ ¬ Fine (moreE (startL s) now)) := by
  obtain ⟨k1, k2⟩ := SvF.start h.ok h.since h.sure
  have hF : (openT s).pos ≤ s.n := (openT_ok h.ok).1.pn
  have ht := (openT_ok h.ok).1
  have k3 := k1.wrt (moreE (startL s) now) h.ok ht
  have k4 := k2.wrt (moreE (startL s) now) h.ok ht (Nat.le_refl _)
  have hnb := Nb.wrt (moreE (startL s) now) (q := 0) ⟨h.ok, ht, by rw [h.ops]; exact Nat.le_refl _, by rw [h.since]; exact Nat.le_refl _⟩
  have hn : (opnS s now).n = s.n := hnb.2.1
  have hok : (opnS s now).Ok := hnb.1.ok
  obtain ⟨R, r1, r2, r3, r4⟩ := wrtG_shape (moreE (startL s) now) s (openT s) []
  have hfirst := h.first
  refine ⟨R, r1, r2, ?_, ?_⟩
  · obtain ⟨hh, e1, e2⟩ := Poss.found k3 (by rw [show (wrtS s (openT s) (moreE (startL s) now)).n = s.n from hn]; exact hF) k3.possN
    refine ⟨hh, ?_, ?_⟩
    · have hb : bodK (opnS s now).now (openT s).pos = bodK s.now (openT s).pos := bodK_same _ (fun j hj => k4.nw j hj (by rw [show (wrtS s (openT s) (moreE (startL s) now)).n = s.n from hn]; omega))
      rw [hfirst, ← hb, ← hn]
      exact e1
    · have := btw_sub e2
      rcases r4 with ⟨_, _, _, e3⟩ | ⟨_, e3, _⟩
      · rw [e3, List.nil_append, List.map_map] at this
        exact this
      · rw [e3, List.nil_append] at this
        exact this
  · intro hz ch
    by_cases hfine : Fine (moreE (startL s) now)
    case neg => exact .inr hfine
    left
    rcases r4 with ⟨_, e1, e2, e3⟩ | ⟨e0, _⟩
    case inr => exact absurd hz e0
    obtain ⟨hh, f1, f2⟩ := Poss.found k3 (by rw [show (wrtS s (openT s) (moreE (startL s) now)).n = s.n from hn]; exact hF) (k3.possC hok ch)
    rw [e3, List.nil_append] at f2
    have hall := btw_all f2 (fun x hx => by obtain ⟨y, hy, rfl⟩ := List.mem_map.1 hx; exact e2 y hy)
    rw [List.map_map] at hall
    have hmap : List.map (Tr.b ∘ Tr.sured) R = R.map Tr.b := rfl
    rw [hmap, r2, e1, List.take_length] at hall
    have hb : bodK ((opnS s now).crash ch).now (openT s).pos = bodK s.now (openT s).pos := bodK_same _ (fun j hj => k4.crash hok ch j hj (by rw [show (wrtS s (openT s) (moreE (startL s) now)).n = s.n from hn]; omega))
    unfold startL
    rw [bodies_bodK]
    show foundE (bodK ((opnS s now).crash ch).now (opnS s now).n) = _
    have f1' : bodK ((opnS s now).crash ch).now (opnS s now).n = bodK ((opnS s now).crash ch).now (openT s).pos ++ hh := f1
    rw [f1', hb, ← hfirst, hall]
    unfold foundE
    rw [List.filter_append, List.map_append]
    congr 1
    exact found_bytes hfine

theorem btw_len {h : List (List Int)} {G : List Tr} (hb : Btw h G) : h.length ≤ G.length := by
  have := (btw_sub hb).length_le
  simpa using this

end Go.Proofs.YtafkkehcacdodaaGreat
