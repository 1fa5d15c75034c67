/- What a book's calls try on the disk: which records, which of them are certain. Plain mathematics. -/
import Derived.Test.YtafkkehcacdodaaGreatBokSurv
import Derived.Test.YtafkkehcacdodaaGreatBokFresh
set_option maxRecDepth 100000
namespace Go.Proofs.YtafkkehcacdodaaGreat
open Go.RowKit

/-- What was tried, behind entries that were laid. -/
def layG : St → Sd → List En → List Tr → List Tr
  | _, _, [], G => G
  | s, t, e :: r, G => if appE s t (bytesE e) ≠ 0 then appG s t (bytesE e) G else layG (appS s t (bytesE e)) (appT s t (bytesE e)) r (appG s t (bytesE e) G)

def wrtG (s : St) (t : Sd) (l : List En) (G : List Tr) : List Tr := if layE s t l ≠ 0 then layG s t l G else synG (layS s t l) (layG s t l G)

theorem appG_shape (s : St) (t : Sd) (b : List Int) (G : List Tr) : (appE s t b = 0 ∧ ∃ k, appG s t b G = G ++ [⟨k, b, true, false⟩]) ∨ (appE s t b ≠ 0 ∧ appE s t b ≠ 6 ∧ (appG s t b G = G ∨ ∃ k, appG s t b G = G ++ [⟨k, b, false, false⟩])) ∨ (appE s t b = 6 ∧ appG s t b G = G) := by
  unfold appE appG
  by_cases hE : frameE b = 0
  · have hE' : ¬ frameE b ≠ 0 := fun e => e hE
    rw [if_neg hE', if_neg hE']
    by_cases hn : s.n ≤ (t.fit b).pos
    · rw [if_pos hn, if_pos hn]; exact .inr (.inr ⟨rfl, rfl⟩)
    · rw [if_neg hn, if_neg hn]
      rcases err_cases s.out with e | e
      · rw [e]; exact .inl ⟨rfl, _, rfl⟩
      · rw [e]; exact .inr (.inl ⟨by decide, by decide, .inr ⟨_, rfl⟩⟩)
  · rw [if_pos hE, if_pos hE]
    refine .inr (.inl ⟨hE, ?_, .inl rfl⟩)
    unfold frameE
    split
    · decide
    · split <;> decide

theorem layG_shape : ∀ (l : List En) (s : St) (t : Sd) (G : List Tr), ∃ R, layG s t l G = G ++ R ∧ R.length ≤ l.length ∧ R.map Tr.b = (l.take R.length).map bytesE ∧ (∀ x ∈ R, x.su = false) ∧ (layE s t l = 0 → R.length = l.length ∧ ∀ x ∈ R, x.fi = true) ∧ (layE s t l = 6 → l.length = 1 → R = []) := by
  intro l
  induction l with
  | nil => intro s t G; exact ⟨[], by simp [layG], Nat.le_refl _, rfl, (fun x hx => by cases hx), fun _ => ⟨rfl, fun x hx => by cases hx⟩, fun _ _ => rfl⟩
  | cons e r ih =>
    intro s t G
    unfold layG layE
    rcases appG_shape s t (bytesE e) G with ⟨h0, k, h1⟩ | ⟨h0, h6, h1⟩ | ⟨h0, h1⟩
    · rw [if_neg (by simpa using h0), if_neg (by simpa using h0), h1]
      obtain ⟨R, e1, e2, e3, e4, e5, e6⟩ := ih (appS s t (bytesE e)) (appT s t (bytesE e)) (G ++ [⟨k, bytesE e, true, false⟩])
      refine ⟨⟨k, bytesE e, true, false⟩ :: R, by rw [e1]; simp, by simp; exact e2, by simp [e3], ?_, fun hz => ?_, fun hz hl => ?_⟩
      · intro x hx
        rcases List.mem_cons.1 hx with rfl | hx
        · rfl
        · exact e4 x hx
      · obtain ⟨f1, f2⟩ := e5 hz
        refine ⟨by simp [f1], fun x hx => ?_⟩
        rcases List.mem_cons.1 hx with rfl | hx
        · rfl
        · exact f2 x hx
      · have hr : r = [] := List.eq_nil_of_length_eq_zero (by simpa using hl)
        subst hr
        simp [layE] at hz
    · rw [if_pos h0, if_pos h0]
      rcases h1 with h1 | ⟨k, h1⟩
      · exact ⟨[], by rw [h1]; simp, Nat.zero_le _, rfl, (fun x hx => by cases hx), fun hz => absurd hz h0, fun _ _ => rfl⟩
      · exact ⟨[⟨k, bytesE e, false, false⟩], h1, by simp, by simp, (fun x hx => by rw [List.mem_singleton.1 hx]), fun hz => absurd hz h0, fun hz => absurd hz h6⟩
    · rw [if_pos (by rw [h0]; decide), if_pos (by rw [h0]; decide), h1, h0]
      exact ⟨[], by simp, Nat.zero_le _, rfl, (fun x hx => by cases hx), fun hz => by simp at hz, fun _ _ => rfl⟩

/-- A write: the records that are tried; where it is OK they are certain, and all that was written ahead. -/
theorem wrtG_shape (l : List En) (s : St) (t : Sd) (G : List Tr) : ∃ R, R.length ≤ l.length ∧ R.map Tr.b = (l.take R.length).map bytesE ∧ (∀ x ∈ R, x.su = false) ∧
    ((wrtE s t l = 0 ∧ R.length = l.length ∧ (∀ x ∈ R, x.fi = true) ∧ wrtG s t l G = (G ++ R).map Tr.sured) ∨ (wrtE s t l ≠ 0 ∧ wrtG s t l G = G ++ R ∧ (wrtE s t l = 6 → l.length = 1 → R = []))) := by
  obtain ⟨R, e1, e2, e3, e4, e5, e6⟩ := layG_shape l s t G
  refine ⟨R, e2, e3, e4, ?_⟩
  unfold wrtE wrtG
  by_cases hz : layE s t l = 0
  · obtain ⟨f1, f2⟩ := e5 hz
    rw [if_neg (by simpa using hz), if_neg (by simpa using hz), e1]
    unfold synG
    rcases err_cases (layS s t l).out with h | h
    · rw [if_pos h]; exact .inl ⟨h, f1, f2, rfl⟩
    · rw [if_neg (by rw [h]; decide), h]
      exact .inr ⟨by decide, rfl, fun h6 => by simp at h6⟩
  · rw [if_pos hz, if_pos hz]
    exact .inr ⟨hz, e1, e6⟩

theorem SvF.lay {F : Nat} : ∀ (l : List En) {s : St} {t : Sd} {G : List Tr}, SvF F s t G → s.Ok → t.Ok s.n → SvF F (layS s t l) (layT s t l) (layG s t l G) ∧ (layS s t l).Ok ∧ (layT s t l).Ok (layS s t l).n := by
  intro l
  induction l with
  | nil => intro s t G h ho ht; exact ⟨h, ho, ht⟩
  | cons e r ih =>
    intro s t G h ho ht
    have h1 := h.app ho ht (bytesE e) (bytesE_bytes e)
    obtain ⟨h2, h3⟩ := appS_ok ho ht (bytesE e) (bytesE_bytes e)
    have h4 : (appT s t (bytesE e)).Ok (appS s t (bytesE e)).n := by rw [h3]; exact (appT_ok (s := s) ht _ (bytesE_bytes e)).1
    unfold layS layT layG
    by_cases he : appE s t (bytesE e) ≠ 0
    · rw [if_pos he, if_pos he, if_pos he]; exact ⟨h1, h2, h4⟩
    · rw [if_neg he, if_neg he, if_neg he]; exact ih h1 h2 h4

theorem SvF.wrt {F : Nat} (l : List En) {s : St} {t : Sd} {G : List Tr} (h : SvF F s t G) (ho : s.Ok) (ht : t.Ok s.n) : SvF F (wrtS s t l) (wrtT s t l) (wrtG s t l G) := by
  obtain ⟨h1, h2, h3⟩ := h.lay l ho ht
  unfold wrtS wrtT wrtG
  by_cases he : layE s t l ≠ 0
  · rw [if_pos he, if_pos he, if_pos he]; exact h1
  · rw [if_neg he, if_neg he, if_neg he]; exact h1.sync

theorem Old.lay {F : Nat} {N0 : List Int} : ∀ (l : List En) {s : St} {t : Sd}, Old F N0 s → s.Ok → t.Ok s.n → F ≤ t.pos → Old F N0 (layS s t l) ∧ F ≤ (layT s t l).pos := by
  intro l
  induction l with
  | nil => intro s t h _ _ hF; exact ⟨h, hF⟩
  | cons e r ih =>
    intro s t h ho ht hF
    have h1 := h.app ho ht hF (bytesE e)
    obtain ⟨h2, h3⟩ := appS_ok ho ht (bytesE e) (bytesE_bytes e)
    have h4 : (appT s t (bytesE e)).Ok (appS s t (bytesE e)).n := by rw [h3]; exact (appT_ok (s := s) ht _ (bytesE_bytes e)).1
    have h5 : F ≤ (appT s t (bytesE e)).pos := by
      have hfit : F ≤ (t.fit (bytesE e)).pos := by
        unfold Sd.fit
        split
        · simp [Sd.leave]; omega
        · exact hF
      unfold appT
      split
      · exact hF
      · split
        · exact hfit
        · split
          · exact hfit
          · simp [Sd.leave]; omega
    unfold layS layT
    by_cases he : appE s t (bytesE e) ≠ 0
    · rw [if_pos he, if_pos he]; exact ⟨h1, h5⟩
    · rw [if_neg he, if_neg he]; exact ih h1 h2 h4 h5

theorem Old.wrt {F : Nat} {N0 : List Int} (l : List En) {s : St} {t : Sd} (h : Old F N0 s) (ho : s.Ok) (ht : t.Ok s.n) (hF : F ≤ t.pos) : Old F N0 (wrtS s t l) := by
  unfold wrtS
  split
  · exact (Old.lay l h ho ht hF).1
  · exact (Old.lay l h ho ht hF).1.sync

/-! ### A book's calls -/
def Bm.payG (b : Bm) (G : List Tr) : List Tr := if b.D = [] then G else wrtG b.s b.t b.D G
def Bm.putG (b : Bm) (e : En) (G : List Tr) : List Tr := if checkE e ≠ 0 then G else if b.payE ≠ 0 then b.payG G else wrtG b.pay.s b.pay.t [e] (b.payG G)

theorem SvF.pay {F : Nat} {b : Bm} {q : Nat} (hb : b.Ok q) {G : List Tr} (h : SvF F b.s b.t G) : SvF F b.pay.s b.pay.t (b.payG G) := by
  unfold Bm.pay Bm.payG
  split
  · exact h
  · exact h.wrt b.D hb.nb.ok hb.nb.tk

theorem SvF.bput {F : Nat} {b : Bm} {q : Nat} (hb : b.Ok q) {G : List Tr} (h : SvF F b.s b.t G) (e : En) : SvF F (b.put e).s (b.put e).t (b.putG e G) := by
  unfold Bm.put Bm.putG
  split
  · exact h
  · split
    · exact h.pay hb
    · exact (h.pay hb).wrt [e] hb.pay.1.nb.ok hb.pay.1.nb.tk

theorem new_sv (n : Nat) (h1 : 1 ≤ n) (h2 : n ≤ 4096) (now : Int) : SvF 0 (newB n now).s (newB n now).t (wrtG (St.new n) ⟨0, 0, []⟩ [bootE now] []) ∧ Old 0 (St.new n).now (newB n now).s := by
  obtain ⟨k1, k2⟩ := SvF.start (s := St.new n) (St.ok_new h1 h2) rfl rfl
  have ht := (openT_ok (St.ok_new h1 h2)).1
  have hm : moreE (startL (St.new n)) now = [bootE now] := by rw [start_new]; rfl
  have hs : (newB n now).s = wrtS (St.new n) (openT (St.new n)) [bootE now] := by
    show opnS (St.new n) now = _
    unfold opnS
    rw [hm]
  have htt : (newB n now).t = wrtT (St.new n) (openT (St.new n)) [bootE now] := by
    show wrtT _ _ _ = _
    rw [hm]
  rw [hs, htt]
  rw [openT_new] at k1 k2 ht ⊢
  exact ⟨k1.wrt [bootE now] (St.ok_new h1 h2) ht, k2.wrt [bootE now] (St.ok_new h1 h2) ht (Nat.le_refl _)⟩

/-! ### What is certain -/
def Sures (G : List Tr) : List (List Int) := (G.filter Tr.su).map Tr.b
def SuFi (G : List Tr) : Prop := ∀ x ∈ G, x.su = true → x.fi = true

theorem sures_app (G R : List Tr) (h : ∀ x ∈ R, x.su = false) : Sures (G ++ R) = Sures G := by
  unfold Sures
  rw [List.filter_append]
  have : R.filter Tr.su = [] := by
    rw [List.filter_eq_nil_iff]
    intro x hx
    rw [h x hx]; decide
  rw [this, List.append_nil]

theorem sures_sured (G : List Tr) : Sures (G.map Tr.sured) = (G.filter Tr.fi).map Tr.b := by
  induction G with
  | nil => rfl
  | cons x G ih =>
    unfold Sures at ih ⊢
    rw [List.map_cons]
    by_cases h : x.fi = true
    · rw [List.filter_cons_of_pos (by exact h), List.filter_cons_of_pos h, List.map_cons, List.map_cons, ih]; rfl
    · rw [List.filter_cons_of_neg (by exact h), List.filter_cons_of_neg h, ih]

theorem sures_fi (G : List Tr) (h : SuFi G) : (Sures G).Sublist ((G.filter Tr.fi).map Tr.b) := by
  unfold Sures
  refine List.Sublist.map _ ?_
  induction G with
  | nil => exact .slnil
  | cons x G ih =>
    have hG := ih (fun y hy => h y (by simp [hy]))
    by_cases h1 : x.su = true
    · rw [List.filter_cons_of_pos h1, List.filter_cons_of_pos (h x (by simp) h1)]; exact hG.cons_cons x
    · rw [List.filter_cons_of_neg h1]
      by_cases h2 : x.fi = true
      · rw [List.filter_cons_of_pos h2]; exact hG.cons x
      · rw [List.filter_cons_of_neg h2]; exact hG

theorem suFi_app {G R : List Tr} (h : SuFi G) (k : ∀ x ∈ R, x.su = false) : SuFi (G ++ R) := by
  intro x hx hs
  rcases List.mem_append.1 hx with hx | hx
  · exact h x hx hs
  · rw [k x hx] at hs; cases hs

theorem suFi_sured (G : List Tr) : SuFi (G.map Tr.sured) := by
  intro x hx hs
  obtain ⟨y, _, rfl⟩ := List.mem_map.1 hx
  exact hs

/-- How what was tried has grown: nothing certain is lost. -/
structure GrewG (G G' : List Tr) (n : Nat) : Prop where
  sf : SuFi G'
  su : (Sures G).Sublist (Sures G')
  len : G'.length ≤ G.length + n

theorem GrewG.refl {G : List Tr} (h : SuFi G) (n : Nat) : GrewG G G n := ⟨h, List.Sublist.refl _, by omega⟩
theorem GrewG.trans {G H K : List Tr} {n m : Nat} (h : GrewG G H n) (k : GrewG H K m) : GrewG G K (n + m) := ⟨k.sf, h.su.trans k.su, by have := h.len; have := k.len; omega⟩
theorem GrewG.more {G H : List Tr} {n m : Nat} (h : GrewG G H n) (k : n ≤ m) : GrewG G H m := ⟨h.sf, h.su, by have := h.len; omega⟩

theorem wrtG_grew (l : List En) (s : St) (t : Sd) {G : List Tr} (h : SuFi G) : GrewG G (wrtG s t l G) l.length ∧ (wrtE s t l = 0 → (Sures G ++ l.map bytesE).Sublist (Sures (wrtG s t l G))) := by
  obtain ⟨R, r1, r2, r3, r4⟩ := wrtG_shape l s t G
  rcases r4 with ⟨e0, e1, e2, e3⟩ | ⟨e0, e1, _⟩
  · rw [e3]
    have hR : (R.filter Tr.fi).map Tr.b = l.map bytesE := by
      have : R.filter Tr.fi = R := by rw [List.filter_eq_self]; exact e2
      rw [this, r2, e1, List.take_length]
    have hs : Sures ((G ++ R).map Tr.sured) = (G.filter Tr.fi).map Tr.b ++ l.map bytesE := by
      rw [sures_sured, List.filter_append, List.map_append, hR]
    have hsub := (sures_fi G h).append (List.Sublist.refl (l.map bytesE))
    refine ⟨⟨suFi_sured _, ?_, by simp; omega⟩, fun _ => by rw [hs]; exact hsub⟩
    rw [hs]
    exact (List.sublist_append_left _ _).trans hsub
  · rw [e1]
    exact ⟨⟨suFi_app h r3, by rw [sures_app _ _ r3]; exact List.Sublist.refl _, by simp; omega⟩, fun hz => absurd hz e0⟩

theorem payG_grew {b : Bm} {q : Nat} (hb : b.Ok q) {G : List Tr} (h : SuFi G) : GrewG G (b.payG G) 1 := by
  unfold Bm.payG
  split
  · exact .refl h 1
  · exact (wrtG_grew b.D b.s b.t h).1.more hb.d1

theorem putG_grew {b : Bm} {q : Nat} (hb : b.Ok q) {G : List Tr} (h : SuFi G) (e : En) : GrewG G (b.putG e G) 2 ∧ (b.putE e = 0 → (Sures G ++ [bytesE e]).Sublist (Sures (b.putG e G))) := by
  unfold Bm.putG Bm.putE
  by_cases hc : checkE e = 0
  · have hc' : ¬ checkE e ≠ 0 := by simpa using hc
    rw [if_neg hc', if_neg hc']
    have h1 := payG_grew hb h
    by_cases hp : b.payE = 0
    · have hp' : ¬ b.payE ≠ 0 := by simpa using hp
      rw [if_neg hp', if_neg hp']
      obtain ⟨h2, h3⟩ := wrtG_grew [e] b.pay.s b.pay.t h1.sf
      exact ⟨h1.trans h2, fun hz => (h1.su.append (List.Sublist.refl _)).trans (h3 hz)⟩
    · rw [if_pos hp, if_pos hp]
      exact ⟨h1.more (by omega), fun hz => absurd hz hp⟩
  · rw [if_pos hc, if_pos hc]
    exact ⟨.refl h 2, fun hz => absurd hz hc⟩

/-- What is certain is found. -/
theorem btw_sures {h : List (List Int)} {G : List Tr} (hb : Btw h G) : (Sures G).Sublist h := by
  induction hb with
  | nil => exact .slnil
  | skip x hx _ ih =>
    unfold Sures at ih ⊢
    rw [List.filter_cons_of_neg (by rw [hx]; decide)]; exact ih
  | take x _ ih =>
    unfold Sures at ih ⊢
    by_cases hx : x.su = true
    · rw [List.filter_cons_of_pos hx, List.map_cons]; exact ih.cons_cons _
    · rw [List.filter_cons_of_neg hx]; exact ih.cons _

theorem found_bytes {l : List En} (h : Fine l) : foundE (l.map bytesE) = l := by
  unfold foundE
  induction l with
  | nil => rfl
  | cons e l ih =>
    obtain ⟨hm, ho⟩ := h e (by simp)
    obtain ⟨k1, k2⟩ := entE_bytesE hm ho
    rw [List.map_cons, List.filter_cons_of_pos (by simpa using k1), List.map_cons, k2, ih (fun x hx => h x (by simp [hx]))]

theorem found_sub {l m : List (List Int)} (h : l.Sublist m) : (foundE l).Sublist (foundE m) := (h.filter _).map _

end Go.Proofs.YtafkkehcacdodaaGreat
