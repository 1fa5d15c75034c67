/- Spans that tell who had a block, whatever of the tried entries is found. Plain mathematics. -/
import Derived.Test.YtafkkehcacdodaaGreatBokReopen
set_option maxRecDepth 100000
namespace Go.Proofs.YtafkkehcacdodaaGreat
open Go.RowKit

/-! ### What the shutting of an open span does to the list's members -/
theorem shut_mem {S : List Sp} {a k t : Int} {s' : Sp} (h : s' ∈ shutI S (openI S a k) t) : s' ∈ S ∨ ∃ s ∈ S, s.opn = true ∧ s.addr = a ∧ s.block = k ∧ s' = shutS s t := by
  cases ho : openI S a k with
  | none => rw [ho] at h; exact .inl h
  | some i =>
    rw [ho] at h
    obtain ⟨s, hs, o1, o2, o3⟩ := openI_at ho
    rcases List.mem_or_eq_of_mem_set h with h' | rfl
    · exact .inl h'
    · refine .inr ⟨s, List.mem_of_getElem? hs, o1, o2, o3, ?_⟩
      rw [List.getD_eq_getElem?_getD, hs]; rfl

theorem mem_shut {S : List Sp} {a k : Int} (t : Int) {s : Sp} (h : s ∈ S) : s ∈ shutI S (openI S a k) t ∨ (s.opn = true ∧ s.addr = a ∧ s.block = k ∧ shutS s t ∈ shutI S (openI S a k) t) := by
  cases ho : openI S a k with
  | none => exact .inl h
  | some i =>
    obtain ⟨u, hu, o1, o2, o3⟩ := openI_at ho
    obtain ⟨j, hj⟩ := List.getElem?_of_mem h
    by_cases hji : j = i
    · subst hji
      rw [hu] at hj
      have hsu : u = s := Option.some.inj hj
      subst hsu
      refine .inr ⟨o1, o2, o3, ?_⟩
      have hlt := (List.getElem?_eq_some_iff.1 hu).1
      refine List.mem_of_getElem? (i := j) ?_
      show (S.set j (shutS (S.getD j default) t))[j]? = _
      rw [List.getElem?_set_self hlt, List.getD_eq_getElem?_getD, hu]; rfl
    · left
      refine List.mem_of_getElem? (i := j) ?_
      show (S.set i (shutS (S.getD i default) t))[j]? = _
      rw [List.getElem?_set_ne (fun e => hji e.symm)]; exact hj

theorem shut_none {S : List Sp} (hU : Uniq S) {a k t : Int} {s' : Sp} (h : s' ∈ shutI S (openI S a k) t) (ho : s'.opn = true) : ¬ (s'.addr = a ∧ s'.block = k) := by
  obtain ⟨j, hj⟩ := List.getElem?_of_mem h
  have : OpenAt (shutI S (openI S a k) t) s'.addr s'.block j := ⟨s', hj, ho, rfl, rfl⟩
  exact ((openAt_shutI hU).1 this).1

theorem step_rel {S : List Sp} {e : En} (he : e.kind = 3) : stepS S e = shutI S (openI S e.addr e.block) e.time := by
  unfold stepS; rw [if_neg (by omega), if_pos he]

theorem step_grant {S : List Sp} {e : En} (he : e.kind = 2) : stepS S e = shutI S (openI S e.addr e.block) (aheadT e.time) ++ [newS e] := by
  unfold stepS; rw [if_pos he]

theorem openI_no {S : List Sp} {a k : Int} (h : ∀ s ∈ S, s.addr = a → s.block = k → s.opn = false) : openI S a k = none := by
  cases ho : openI S a k with
  | none => rfl
  | some i =>
    obtain ⟨s, hs, o1, o2, o3⟩ := openI_at ho
    have := h s (List.mem_of_getElem? hs) o2 o3
    rw [o1] at this; cases this

/-- Another block's spans stay as they are. -/
theorem step_other {S : List Sp} {e : En} {a k : Int} (hne : ¬ (e.addr = a ∧ e.block = k)) {s : Sp} (h1 : s.addr = a) (h2 : s.block = k) : s ∈ stepS S e ↔ s ∈ S := by
  have hs : ∀ t, s ∈ shutI S (openI S e.addr e.block) t ↔ s ∈ S := fun t => by
    constructor
    · intro h
      rcases shut_mem h with h | ⟨u, _, _, u2, u3, rfl⟩
      · exact h
      · exact absurd ⟨u2.symm.trans h1, u3.symm.trans h2⟩ hne
    · intro h
      rcases mem_shut t h with h | ⟨_, u2, u3, _⟩
      · exact h
      · exact absurd ⟨u2.symm.trans h1, u3.symm.trans h2⟩ hne
  unfold stepS
  split
  · rw [List.mem_append, hs, List.mem_singleton]
    refine ⟨fun h => ?_, .inl⟩
    rcases h with h | rfl
    · exact h
    · exact absurd ⟨h1, h2⟩ hne
  · split
    · exact hs _
    · exact Iff.rfl

/-! ### Who is asked for -/
/-- A block, a time from and to, and whose it was. -/
structure AskOK (S : List Sp) (q : Sp) : Prop where
  le : q.frm ≤ q.til
  ex : ∃ s ∈ S, s.addr = q.addr ∧ s.block = q.block ∧ s.sub = q.sub ∧ s.frm ≤ q.frm ∧ (s.opn = true ∨ q.til ≤ s.til)
  un : ∀ s ∈ S, s.addr = q.addr → s.block = q.block → s.frm ≤ q.til → (s.opn = true ∨ q.frm ≤ s.til) → s.sub = q.sub

theorem AskOK.who {S : List Sp} {q : Sp} (h : AskOK S q) {t : Int} (h1 : q.frm ≤ t) (h2 : t ≤ q.til) {r : List Int} (hr : WhoOf S q.addr q.block t r) : r = [q.sub] := by
  refine hr.one ⟨List.pairwise_singleton _ _, fun x => ?_⟩
  rw [List.mem_singleton, mem_subsAt]
  constructor
  · rintro rfl
    obtain ⟨s, hs, a1, a2, a3, a4, a5⟩ := h.ex
    refine ⟨s, hs, hit_iff.2 ⟨⟨a1, a2⟩, by omega, ?_⟩, a3⟩
    rcases a5 with a5 | a5
    · exact .inl a5
    · exact .inr (by omega)
  · rintro ⟨s, hs, hh, rfl⟩
    obtain ⟨⟨a1, a2⟩, a3, a4⟩ := hit_iff.1 hh
    refine h.un s hs a1 a2 (by omega) ?_
    rcases a4 with a4 | a4
    · exact .inl a4
    · exact .inr (by omega)

theorem AskOK.agree {S S' : List Sp} {q : Sp} (h : AskOK S q) (ha : ∀ s : Sp, s.addr = q.addr → s.block = q.block → (s ∈ S' ↔ s ∈ S)) : AskOK S' q := by
  obtain ⟨s, hs, a1, a2, a3⟩ := h.ex
  exact ⟨h.le, ⟨s, (ha s a1 a2).2 hs, a1, a2, a3⟩, fun s hs a1 a2 => h.un s ((ha s a1 a2).1 hs) a1 a2⟩

theorem AskOK.rel {S : List Sp} {q : Sp} (h : AskOK S q) {e : En} (he : e.kind = 3) (ht : e.addr = q.addr → e.block = q.block → q.til ≤ e.time) : AskOK (stepS S e) q := by
  by_cases hb : e.addr = q.addr ∧ e.block = q.block
  case neg => exact h.agree (fun s h1 h2 => step_other hb h1 h2)
  have hT := ht hb.1 hb.2
  rw [step_rel he]
  refine ⟨h.le, ?_, fun s' hs' a1 a2 a3 a4 => ?_⟩
  · obtain ⟨s, hs, a1, a2, a3, a4, a5⟩ := h.ex
    rcases mem_shut e.time hs with h' | ⟨_, _, _, h'⟩
    · exact ⟨s, h', a1, a2, a3, a4, a5⟩
    · exact ⟨shutS s e.time, h', a1, a2, a3, a4, .inr (by show _ ≤ max s.frm e.time; omega)⟩
  · rcases shut_mem hs' with h' | ⟨s, hs, o1, o2, o3, rfl⟩
    · exact h.un s' h' a1 a2 a3 a4
    · exact h.un s hs a1 a2 a3 (.inl o1)

theorem AskOK.quiet {S : List Sp} {q : Sp} (h : AskOK S q) {e : En} (h2 : e.kind ≠ 2) (h3 : e.kind ≠ 3) : AskOK (stepS S e) q := by
  unfold stepS
  rw [if_neg h2, if_neg h3]; exact h

theorem AskOK.grant {S : List Sp} {q : Sp} (h : AskOK S q) {e : En} (he : e.kind = 2) (ht : e.addr = q.addr → e.block = q.block → q.til < e.time ∧ ∀ s ∈ S, s.addr = e.addr → s.block = e.block → s.opn = false) : AskOK (stepS S e) q := by
  by_cases hb : e.addr = q.addr ∧ e.block = q.block
  case neg => exact h.agree (fun s h1 h2 => step_other hb h1 h2)
  obtain ⟨hT, ho⟩ := ht hb.1 hb.2
  rw [step_grant he, openI_no ho]
  refine ⟨h.le, ?_, fun s' hs' a1 a2 a3 a4 => ?_⟩
  · obtain ⟨s, hs, a⟩ := h.ex
    exact ⟨s, List.mem_append.2 (.inl hs), a⟩
  · rcases List.mem_append.1 hs' with h' | h'
    · exact h.un s' h' a1 a2 a3 a4
    · rw [List.mem_singleton.1 h'] at a3
      have : e.time ≤ q.til := a3
      omega

/-- Releases of a later time, and entries of no block. -/
theorem AskOK.more : ∀ (R : List En) {S : List Sp} {q : Sp}, AskOK S q → (∀ e ∈ R, e.kind ≠ 2 ∧ (e.kind = 3 → q.til ≤ e.time)) → AskOK (R.foldl stepS S) q := by
  intro R
  induction R with
  | nil => intro S q h _; exact h
  | cons e R ih =>
    intro S q h hR
    obtain ⟨h1, h2⟩ := hR e (by simp)
    refine ih ?_ (fun x hx => hR x (by simp [hx]))
    by_cases h3 : e.kind = 3
    · exact h.rel h3 (fun _ _ => h2 h3)
    · exact h.quiet h1 h3

theorem AskOK.opened {L R : List En} {q : Sp} (h : AskOK (spans L) q) {now : Int} (hn : q.til ≤ now) (hR : R.Sublist (moreE L now)) : AskOK (spans (L ++ R)) q := by
  rw [spans_app]
  refine h.more R (fun e he => ?_)
  have hm := hR.subset he
  rcases List.mem_append.1 hm with hm | hm
  · obtain ⟨s, _, rfl⟩ := List.mem_map.1 hm
    exact ⟨by show (3 : Int) ≠ 2; decide, fun _ => by show _ ≤ max now s.frm; omega⟩
  · rw [List.mem_singleton.1 hm]
    exact ⟨by show (1 : Int) ≠ 2; decide, fun h3 => by have : (1 : Int) = 3 := h3; omega⟩

/-! ### The state of one block -/
structure Own1 (S : List Sp) (a k o t : Int) (D : List En) : Prop where
  no : o = 0 → ∀ s ∈ S, ¬ (s.addr = a ∧ s.block = k)
  has : 0 < o → (∃ s ∈ S, s.opn = true ∧ s.addr = a ∧ s.block = k ∧ s.sub = o ∧ s.frm = t) ∧ ∀ s ∈ S, s.addr = a → s.block = k → (s.opn = true → s.sub = o ∧ s.frm = t) ∧ (s.opn = false → s.til < t)
  rest : o = -1 → ∀ s ∈ S, s.addr = a → s.block = k → (s.opn = true → s.frm ≤ t ∧ ∃ e ∈ D, e.addr = a ∧ e.block = k ∧ e.time = s.frm) ∧ (s.opn = false → s.til ≤ t)

theorem Own1.agree {S S' : List Sp} {a k o t : Int} {D : List En} (h : Own1 S a k o t D) (ha : ∀ s : Sp, s.addr = a → s.block = k → (s ∈ S' ↔ s ∈ S)) : Own1 S' a k o t D := by
  refine ⟨fun ho s hs hb => h.no ho s ((ha s hb.1 hb.2).1 hs) hb, fun ho => ?_, fun ho s hs h1 h2 => h.rest ho s ((ha s h1 h2).1 hs) h1 h2⟩
  obtain ⟨⟨s, hs, o1, o2, o3, o4⟩, hall⟩ := h.has ho
  exact ⟨⟨s, (ha s o2 o3).2 hs, o1, o2, o3, o4⟩, fun s hs h1 h2 => hall s ((ha s h1 h2).1 hs) h1 h2⟩

/-- What it takes that nothing is owed. -/
theorem Own1.unowed {S : List Sp} {a k o t : Int} {D D' : List En} (h : Own1 S a k o t D) (hd : o = -1 → ∀ s ∈ S, s.addr = a → s.block = k → s.opn = false) : Own1 S a k o t D' :=
  ⟨h.no, h.has, fun ho s hs h1 h2 => ⟨(fun hop => by rw [hd ho s hs h1 h2] at hop; cases hop), (h.rest ho s hs h1 h2).2⟩⟩

/-- The six blocks. -/
def ka (κ : Nat) : Int := ((κ % 2 : Nat) : Int)
def kb (κ : Nat) : Int := ((κ / 2 : Nat) : Int)

theorem k_inj {κ κ' : Nat} (h1 : ka κ = ka κ') (h2 : kb κ = kb κ') : κ = κ' := by unfold ka at h1; unfold kb at h2; omega

/-- What is seen of them all. -/
structure Seen (S : List Sp) (D : List En) (ow tm : Nat → Int) (now : Int) (A : List Sp) : Prop where
  uq : Uniq S
  glob : ∀ s ∈ S, s.frm ≤ now ∧ (s.opn = false → s.til ≤ now)
  own : ∀ κ, κ < 6 → Own1 S (ka κ) (kb κ) (ow κ) (tm κ) D
  asks : ∀ q ∈ A, AskOK S q

/-- What goes without what is seen. -/
structure Fixed (D : List En) (ow tm : Nat → Int) (now : Int) (A : List Sp) : Prop where
  now0 : 0 ≤ now
  tm0 : ∀ κ, κ < 6 → 0 ≤ tm κ ∧ tm κ ≤ now
  ow3 : ∀ κ, κ < 6 → -2 ≤ ow κ ∧ ow κ ≤ 3
  ask : ∀ q ∈ A, ∃ κ, κ < 6 ∧ q.addr = ka κ ∧ q.block = kb κ ∧ ow κ ≠ 0 ∧ (ow κ = -1 → q.til ≤ tm κ) ∧ 0 ≤ q.frm ∧ q.til ≤ now ∧ 0 ≤ q.sub ∧ q.sub ≤ 3
  debt : ∀ e ∈ D, e.kind = 3 ∧ ∃ κ, κ < 6 ∧ e.addr = ka κ ∧ e.block = kb κ ∧ ow κ = -1 ∧ e.time ≤ tm κ ∧ ∀ q ∈ A, q.addr = e.addr → q.block = e.block → q.til ≤ e.time
  d1 : D.length ≤ 1

def upd (f : Nat → Int) (κ : Nat) (v : Int) : Nat → Int := fun i => if i = κ then v else f i

theorem upd_same (f : Nat → Int) (κ : Nat) (v : Int) : upd f κ v κ = v := if_pos rfl
theorem upd_ne (f : Nat → Int) {κ i : Nat} (v : Int) (h : i ≠ κ) : upd f κ v i = f i := if_neg h

section
variable {S : List Sp} {D : List En} {ow tm : Nat → Int} {now : Int} {A : List Sp}

theorem Seen.now' (h : Seen S D ow tm now A) {now' : Int} (hn : now ≤ now') : Seen S D ow tm now' A :=
  ⟨h.uq, fun s hs => ⟨by have := (h.glob s hs).1; omega, fun ho => by have := (h.glob s hs).2 ho; omega⟩, h.own, h.asks⟩

theorem Fixed.now' (h : Fixed D ow tm now A) {now' : Int} (hn : now ≤ now') : Fixed D ow tm now' A :=
  ⟨by have := h.now0; omega, fun κ hκ => ⟨(h.tm0 κ hκ).1, by have := (h.tm0 κ hκ).2; omega⟩, h.ow3, fun q hq => by
    obtain ⟨κ, a1, a2, a3, a4, a5, a6, a7, a8⟩ := h.ask q hq
    exact ⟨κ, a1, a2, a3, a4, a5, a6, by omega, a8⟩, h.debt, h.d1⟩

theorem glob_rel (h : ∀ s ∈ S, s.frm ≤ now ∧ (s.opn = false → s.til ≤ now)) {e : En} (he : e.kind = 3) (ht : e.time ≤ now) : ∀ s ∈ stepS S e, s.frm ≤ now ∧ (s.opn = false → s.til ≤ now) := by
  rw [step_rel he]
  intro s' hs'
  rcases shut_mem hs' with h' | ⟨s, hs, _, _, _, rfl⟩
  · exact h s' h'
  · have := (h s hs).1
    exact ⟨this, fun _ => by show max s.frm e.time ≤ _; omega⟩

/-- The release that is owed is tried. -/
theorem Seen.owed (h : Seen S D ow tm now A) (hF : Fixed D ow tm now A) {e : En} (he : e ∈ D) : Seen (stepS S e) D ow tm now A ∧ Seen (stepS S e) [] ow tm now A := by
  obtain ⟨hk, κ, k1, k2, k3, k4, k5, k6⟩ := hF.debt e he
  have hD : D = [e] := by
    have := hF.d1
    match D, he, this with
    | [x], he, _ => rw [List.mem_singleton.1 he]
  have hown : ∀ D', ∀ i, i < 6 → Own1 (stepS S e) (ka i) (kb i) (ow i) (tm i) D' := by
    intro D' i hi
    by_cases hik : i = κ
    · subst hik
      refine ⟨fun ho => by omega, fun ho => by omega, fun ho s' hs' h1 h2 => ?_⟩
      rw [step_rel hk] at hs'
      refine ⟨fun hop => absurd ⟨h1.trans k2.symm, h2.trans k3.symm⟩ (shut_none h.uq hs' hop), fun hop => ?_⟩
      rcases shut_mem hs' with h' | ⟨s, hs, o1, o2, o3, rfl⟩
      · exact ((h.own i hi).rest ho s' h' h1 h2).2 hop
      · have := (((h.own i hi).rest ho s hs (o2.trans k2) (o3.trans k3)).1 o1).1
        show max s.frm e.time ≤ _; omega
    · have hne : ¬ (e.addr = ka i ∧ e.block = kb i) := fun hh => hik (k_inj (hh.1.symm.trans k2) (hh.2.symm.trans k3))
      have h1 := (h.own i hi).agree (fun s a1 a2 => step_other hne (S := S) a1 a2)
      refine h1.unowed (fun ho s hs a1 a2 => ?_)
      cases hop : s.opn with
      | false => rfl
      | true =>
        obtain ⟨_, x, hx, x1, x2, _⟩ := (h1.rest ho s hs a1 a2).1 hop
        rw [hD, List.mem_singleton] at hx
        subst hx
        exact absurd ⟨x1, x2⟩ hne
  have hg := glob_rel h.glob hk (by have := (hF.tm0 κ k1).2; omega)
  have ha : ∀ q ∈ A, AskOK (stepS S e) q := fun q hq => (h.asks q hq).rel hk (fun a1 a2 => k6 q hq a1.symm a2.symm)
  exact ⟨⟨uniq_step h.uq e, hg, hown D, ha⟩, ⟨uniq_step h.uq e, hg, hown [], ha⟩⟩

/-- A grant that was not tried. -/
theorem Seen.refused (h : Seen S D ow tm now A) {κ : Nat} (_ : κ < 6) (hc : ow κ = 0 ∨ (ow κ = -1 ∧ tm κ < now)) : Seen S D (upd ow κ (-1)) (upd tm κ now) now A := by
  refine ⟨h.uq, h.glob, fun i hi => ?_, h.asks⟩
  by_cases hik : i = κ
  · subst hik
    rw [upd_same, upd_same]
    have hi1 := h.own i hi
    refine ⟨fun ho => by omega, fun ho => by omega, fun _ s hs h1 h2 => ?_⟩
    rcases hc with hc | ⟨hc, ht⟩
    · exact absurd ⟨h1, h2⟩ (hi1.no hc s hs)
    · obtain ⟨r1, r2⟩ := hi1.rest hc s hs h1 h2
      refine ⟨fun hop => ?_, fun hop => by have := r2 hop; omega⟩
      obtain ⟨x1, x2⟩ := r1 hop
      exact ⟨by omega, x2⟩
  · rw [upd_ne _ _ hik, upd_ne _ _ hik]
    exact h.own i hi

theorem Fixed.refused (h : Fixed D ow tm now A) {κ : Nat} (hκ : κ < 6) (hc : ow κ = 0 ∨ (ow κ = -1 ∧ tm κ < now)) : Fixed D (upd ow κ (-1)) (upd tm κ now) now A := by
  refine ⟨h.now0, fun i hi => ?_, fun i hi => ?_, fun q hq => ?_, fun e he => ?_, h.d1⟩
  · by_cases hik : i = κ
    · subst hik; rw [upd_same]; exact ⟨h.now0, by omega⟩
    · rw [upd_ne _ _ hik]; exact h.tm0 i hi
  · by_cases hik : i = κ
    · subst hik; rw [upd_same]; exact ⟨by omega, by omega⟩
    · rw [upd_ne _ _ hik]; exact h.ow3 i hi
  · obtain ⟨i, a1, a2, a3, a4, a5, a6, a7, a8⟩ := h.ask q hq
    refine ⟨i, a1, a2, a3, ?_, ?_, a6, a7, a8⟩
    · by_cases hik : i = κ
      · subst hik; rw [upd_same]; omega
      · rw [upd_ne _ _ hik]; exact a4
    · by_cases hik : i = κ
      · subst hik; rw [upd_same, upd_same]; exact fun _ => a7
      · rw [upd_ne _ _ hik, upd_ne _ _ hik]; exact a5
  · obtain ⟨hk, i, a1, a2, a3, a4, a5, a6⟩ := h.debt e he
    refine ⟨hk, i, a1, a2, a3, ?_, ?_, a6⟩
    · by_cases hik : i = κ
      · subst hik; rw [upd_same]
      · rw [upd_ne _ _ hik]; exact a4
    · by_cases hik : i = κ
      · subst hik; rw [upd_same]; have := (h.tm0 i a1).2; omega
      · rw [upd_ne _ _ hik]; exact a5

/-- A grant that is found: of an answer OK or not. -/
theorem Seen.granted (h : Seen S [] ow tm now A) (hF : Fixed [] ow tm now A) {κ : Nat} (hκ : κ < 6) (hc : ow κ = 0 ∨ (ow κ = -1 ∧ tm κ < now)) {e : En} (he : e.kind = 2) (h1 : e.addr = ka κ) (h2 : e.block = kb κ) (ht : e.time = now) :
    Seen (stepS S e) [relE e] (upd ow κ (-1)) (upd tm κ now) now A ∧ (0 < e.sub → Seen (stepS S e) [] (upd ow κ e.sub) (upd tm κ now) now A) := by
  have hno : ∀ s ∈ S, s.addr = e.addr → s.block = e.block → s.opn = false := by
    intro s hs a1 a2
    cases hop : s.opn with
    | false => rfl
    | true =>
      rcases hc with hc | ⟨hc, _⟩
      · exact absurd ⟨a1.trans h1, a2.trans h2⟩ ((h.own κ hκ).no hc s hs)
      · obtain ⟨_, x, hx, _⟩ := ((h.own κ hκ).rest hc s hs (a1.trans h1) (a2.trans h2)).1 hop
        cases hx
  have hst : stepS S e = S ++ [newS e] := by rw [step_grant he, openI_no hno]; rfl
  have hcl : ∀ s ∈ S, s.addr = ka κ → s.block = kb κ → s.til < now := by
    intro s hs a1 a2
    rcases hc with hc | ⟨hc, hlt⟩
    · exact absurd ⟨a1, a2⟩ ((h.own κ hκ).no hc s hs)
    · have := ((h.own κ hκ).rest hc s hs a1 a2).2 (hno s hs (a1.trans h1.symm) (a2.trans h2.symm)); omega
  have hg : ∀ s ∈ stepS S e, s.frm ≤ now ∧ (s.opn = false → s.til ≤ now) := by
    intro s hs
    rw [hst] at hs
    rcases List.mem_append.1 hs with hs | hs
    · exact h.glob s hs
    · rw [List.mem_singleton.1 hs]
      exact ⟨by show e.time ≤ _; omega, fun ho => by cases ho⟩
  have ha : ∀ q ∈ A, AskOK (stepS S e) q := by
    intro q hq
    refine (h.asks q hq).grant he (fun a1 a2 => ⟨?_, hno⟩)
    obtain ⟨i, b1, b2, b3, b4, b5, _⟩ := hF.ask q hq
    have hik : i = κ := k_inj (b2.symm.trans (a1.symm.trans h1)) (b3.symm.trans (a2.symm.trans h2))
    subst hik
    rcases hc with hc | ⟨hc, hlt⟩
    · exact absurd hc b4
    · have := b5 hc; omega
  have hoth : ∀ D' i, i < 6 → i ≠ κ → Own1 (stepS S e) (ka i) (kb i) (ow i) (tm i) D' := by
    intro D' i hi hik
    have hne : ¬ (e.addr = ka i ∧ e.block = kb i) := fun hh => hik (k_inj (hh.1.symm.trans h1) (hh.2.symm.trans h2))
    have g1 := (h.own i hi).agree (fun s a1 a2 => step_other hne (S := S) a1 a2)
    refine g1.unowed (fun ho s hs a1 a2 => ?_)
    cases hop : s.opn with
    | false => rfl
    | true => obtain ⟨_, x, hx, _⟩ := (g1.rest ho s hs a1 a2).1 hop; cases hx
  refine ⟨⟨uniq_step h.uq e, hg, fun i hi => ?_, ha⟩, fun hs0 => ⟨uniq_step h.uq e, hg, fun i hi => ?_, ha⟩⟩
  · by_cases hik : i = κ
    · subst hik
      rw [upd_same, upd_same]
      refine ⟨fun ho => by omega, fun ho => by omega, fun _ s hs a1 a2 => ?_⟩
      rw [hst] at hs
      rcases List.mem_append.1 hs with hs | hs
      · refine ⟨(fun hop => by rw [hno s hs (a1.trans h1.symm) (a2.trans h2.symm)] at hop; cases hop), fun _ => by have := hcl s hs a1 a2; omega⟩
      · rw [List.mem_singleton.1 hs]
        exact ⟨fun _ => ⟨by show e.time ≤ _; omega, relE e, List.mem_singleton.2 rfl, h1, h2, rfl⟩, fun ho => by cases ho⟩
    · rw [upd_ne _ _ hik, upd_ne _ _ hik]; exact hoth _ i hi hik
  · by_cases hik : i = κ
    · subst hik
      rw [upd_same, upd_same]
      refine ⟨fun ho => by omega, fun _ => ⟨⟨newS e, by rw [hst]; simp, rfl, h1, h2, rfl, ht⟩, fun s hs a1 a2 => ?_⟩, fun ho => by omega⟩
      rw [hst] at hs
      rcases List.mem_append.1 hs with hs | hs
      · refine ⟨(fun hop => by rw [hno s hs (a1.trans h1.symm) (a2.trans h2.symm)] at hop; cases hop), fun _ => hcl s hs a1 a2⟩
      · rw [List.mem_singleton.1 hs]
        exact ⟨fun _ => ⟨rfl, ht⟩, fun ho => by cases ho⟩
    · rw [upd_ne _ _ hik, upd_ne _ _ hik]; exact hoth _ i hi hik

theorem Fixed.granted (h : Fixed [] ow tm now A) {κ : Nat} (hκ : κ < 6) (hc : ow κ = 0 ∨ (ow κ = -1 ∧ tm κ < now)) {e : En} (h1 : e.addr = ka κ) (h2 : e.block = kb κ) (ht : e.time = now) :
    Fixed [relE e] (upd ow κ (-1)) (upd tm κ now) now A ∧ (0 < e.sub → e.sub ≤ 3 → Fixed [] (upd ow κ e.sub) (upd tm κ now) now A) := by
  have hr := h.refused hκ hc
  have hq : ∀ q ∈ A, q.addr = e.addr → q.block = e.block → q.til < now := by
    intro q hq a1 a2
    obtain ⟨i, b1, b2, b3, b4, b5, _⟩ := h.ask q hq
    have hik : i = κ := k_inj (b2.symm.trans (a1.trans h1)) (b3.symm.trans (a2.trans h2))
    subst hik
    rcases hc with hc | ⟨hc, hlt⟩
    · exact absurd hc b4
    · have := b5 hc; omega
  refine ⟨⟨hr.now0, hr.tm0, hr.ow3, hr.ask, fun x hx => ?_, Nat.le_refl _⟩, fun hs0 hs3 => ⟨h.now0, hr.tm0, fun i hi => ?_, fun q hq' => ?_, (fun x hx => by cases hx), Nat.zero_le _⟩⟩
  · rw [List.mem_singleton.1 hx]
    refine ⟨rfl, κ, hκ, h1, h2, by rw [upd_same], by rw [upd_same]; show e.time ≤ _; omega, fun q hq' a1 a2 => ?_⟩
    have := hq q hq' a1 a2
    show _ ≤ e.time; omega
  · by_cases hik : i = κ
    · subst hik; rw [upd_same]; omega
    · rw [upd_ne _ _ hik]; exact h.ow3 i hi
  · obtain ⟨i, a1, a2, a3, a4, a5, a6⟩ := h.ask q hq'
    refine ⟨i, a1, a2, a3, ?_, ?_, a6⟩
    · by_cases hik : i = κ
      · subst hik; rw [upd_same]; omega
      · rw [upd_ne _ _ hik]; exact a4
    · by_cases hik : i = κ
      · subst hik; rw [upd_same]; intro ho; omega
      · rw [upd_ne _ _ hik, upd_ne _ _ hik]; exact a5

/-- It is asked for. -/
def askS (o : Int) (κ : Nat) (t now : Int) : Sp := ⟨o, ka κ, kb κ, t, now, false⟩

theorem Seen.asked (h : Seen S D ow tm now A) (hF : Fixed D ow tm now A) {κ : Nat} (hκ : κ < 6) (ho : 0 < ow κ) : AskOK S (askS (ow κ) κ (tm κ) now) := by
  obtain ⟨⟨s, hs, o1, o2, o3, o4, o5⟩, hall⟩ := (h.own κ hκ).has ho
  refine ⟨(hF.tm0 κ hκ).2, ⟨s, hs, o2, o3, o4, by show s.frm ≤ tm κ; omega, .inl o1⟩, fun u hu a1 a2 _ a4 => ?_⟩
  obtain ⟨g1, g2⟩ := hall u hu a1 a2
  rcases a4 with a4 | a4
  · exact (g1 a4).1
  · cases hop : u.opn with
    | true => exact (g1 hop).1
    | false => have := g2 hop; have : tm κ ≤ u.til := a4; omega

theorem Seen.leave (h : Seen S D ow tm now A) (hF : Fixed D ow tm now A) {κ : Nat} (hκ : κ < 6) (ho : 0 < ow κ) : Seen S D (upd ow κ (-2)) tm now (A ++ [askS (ow κ) κ (tm κ) now]) := by
  refine ⟨h.uq, h.glob, fun i hi => ?_, fun q hq => ?_⟩
  · by_cases hik : i = κ
    · subst hik; rw [upd_same]; exact ⟨fun h => by omega, fun h => by omega, fun h => by omega⟩
    · rw [upd_ne _ _ hik]; exact h.own i hi
  · rcases List.mem_append.1 hq with hq | hq
    · exact h.asks q hq
    · rw [List.mem_singleton.1 hq]; exact h.asked hF hκ ho

theorem Fixed.leave (h : Fixed D ow tm now A) {κ : Nat} (hκ : κ < 6) (ho : 0 < ow κ) : Fixed D (upd ow κ (-2)) tm now (A ++ [askS (ow κ) κ (tm κ) now]) := by
  refine ⟨h.now0, h.tm0, fun i hi => ?_, fun q hq => ?_, fun e he => ?_, h.d1⟩
  · by_cases hik : i = κ
    · subst hik; rw [upd_same]; omega
    · rw [upd_ne _ _ hik]; exact h.ow3 i hi
  · rcases List.mem_append.1 hq with hq | hq
    · obtain ⟨i, a1, a2, a3, a4, a5, a6⟩ := h.ask q hq
      refine ⟨i, a1, a2, a3, ?_, ?_, a6⟩
      · by_cases hik : i = κ
        · subst hik; rw [upd_same]; omega
        · rw [upd_ne _ _ hik]; exact a4
      · by_cases hik : i = κ
        · subst hik; rw [upd_same]; intro h; omega
        · rw [upd_ne _ _ hik]; exact a5
    · rw [List.mem_singleton.1 hq]
      have := h.tm0 κ hκ
      have := h.ow3 κ hκ
      exact ⟨κ, hκ, rfl, rfl, by rw [upd_same]; omega, by rw [upd_same]; intro h; omega, by show 0 ≤ tm κ; omega, Int.le_refl _, by show 0 ≤ ow κ; omega, by show ow κ ≤ 3; omega⟩
  · obtain ⟨hk, i, a1, a2, a3, a4, a5, a6⟩ := h.debt e he
    have hik : i ≠ κ := fun hh => by subst hh; omega
    refine ⟨hk, i, a1, a2, a3, by rw [upd_ne _ _ hik]; exact a4, a5, fun q hq b1 b2 => ?_⟩
    rcases List.mem_append.1 hq with hq | hq
    · exact a6 q hq b1 b2
    · rw [List.mem_singleton.1 hq] at b1 b2
      exact absurd (k_inj (a2.symm.trans b1.symm) (a3.symm.trans b2.symm)) hik

/-- A release that is found: of an answer OK or not. -/
theorem Seen.released (h : Seen S [] ow tm now A) (hF : Fixed [] ow tm now A) {κ : Nat} (_ : κ < 6) (ho : ow κ = -2) {e : En} (he : e.kind = 3) (h1 : e.addr = ka κ) (h2 : e.block = kb κ) (ht : e.time = now) :
    Seen (stepS S e) [] ow tm now A ∧ Seen (stepS S e) [] (upd ow κ (-1)) (upd tm κ now) now A := by
  have hg := glob_rel h.glob he (by omega)
  have ha : ∀ q ∈ A, AskOK (stepS S e) q := fun q hq => (h.asks q hq).rel he (fun _ _ => by
    obtain ⟨_, _, _, _, _, _, _, a7, _⟩ := hF.ask q hq
    omega)
  have hoth : ∀ i, i < 6 → i ≠ κ → Own1 (stepS S e) (ka i) (kb i) (ow i) (tm i) [] := fun i hi hik =>
    (h.own i hi).agree (fun s a1 a2 => step_other (fun hh => hik (k_inj (hh.1.symm.trans h1) (hh.2.symm.trans h2))) (S := S) a1 a2)
  refine ⟨⟨uniq_step h.uq e, hg, fun i hi => ?_, ha⟩, ⟨uniq_step h.uq e, hg, fun i hi => ?_, ha⟩⟩
  · by_cases hik : i = κ
    · subst hik; rw [ho]; exact ⟨fun h => by omega, fun h => by omega, fun h => by omega⟩
    · exact hoth i hi hik
  · by_cases hik : i = κ
    · subst hik
      rw [upd_same, upd_same]
      refine ⟨fun h => by omega, fun h => by omega, fun _ s hs a1 a2 => ⟨fun hop => ?_, fun hop => (hg s hs).2 hop⟩⟩
      rw [step_rel he] at hs
      exact absurd ⟨a1.trans h1.symm, a2.trans h2.symm⟩ (shut_none h.uq hs hop)
    · rw [upd_ne _ _ hik, upd_ne _ _ hik]; exact hoth i hi hik

theorem Fixed.released (h : Fixed D ow tm now A) {κ : Nat} (hκ : κ < 6) (ho : ow κ = -2) : Fixed D (upd ow κ (-1)) (upd tm κ now) now A := by
  refine ⟨h.now0, fun i hi => ?_, fun i hi => ?_, fun q hq => ?_, fun e he => ?_, h.d1⟩
  · by_cases hik : i = κ
    · subst hik; rw [upd_same]; exact ⟨h.now0, by omega⟩
    · rw [upd_ne _ _ hik]; exact h.tm0 i hi
  · by_cases hik : i = κ
    · subst hik; rw [upd_same]; exact ⟨by omega, by omega⟩
    · rw [upd_ne _ _ hik]; exact h.ow3 i hi
  · obtain ⟨i, a1, a2, a3, a4, a5, a6, a7, a8⟩ := h.ask q hq
    refine ⟨i, a1, a2, a3, ?_, ?_, a6, a7, a8⟩
    · by_cases hik : i = κ
      · subst hik; rw [upd_same]; omega
      · rw [upd_ne _ _ hik]; exact a4
    · by_cases hik : i = κ
      · subst hik; rw [upd_same, upd_same]; exact fun _ => a7
      · rw [upd_ne _ _ hik, upd_ne _ _ hik]; exact a5
  · obtain ⟨hk, i, a1, a2, a3, a4, a5, a6⟩ := h.debt e he
    have hik : i ≠ κ := fun hh => by subst hh; omega
    exact ⟨hk, i, a1, a2, a3, by rw [upd_ne _ _ hik]; exact a4, by rw [upd_ne _ _ hik]; exact a5, a6⟩

theorem Fixed.paid (h : Fixed D ow tm now A) : Fixed [] ow tm now A := ⟨h.now0, h.tm0, h.ow3, h.ask, (fun x hx => by cases hx), Nat.zero_le _⟩

end

end Go.Proofs.YtafkkehcacdodaaGreat
