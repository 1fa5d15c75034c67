/- Plain mathematics: spans of entries; who had a block; strictly rising lists. No program in sight. -/
import Derived.Test.YtafkkehcacdodaaGreatEntMath
set_option maxRecDepth 100000
namespace Go.Proofs.YtafkkehcacdodaaGreat
open Go.RowKit

/-- A span in numbers. -/
structure Sp where
  sub : Int
  addr : Int
  block : Int
  frm : Int
  til : Int
  opn : Bool
deriving DecidableEq, Inhabited

/-- What the kinds of the numbers say. -/
structure Sp.Ok (s : Sp) : Prop where
  sub0 : 0 ≤ s.sub
  sub1 : s.sub < 4294967296
  addr0 : 0 ≤ s.addr
  addr1 : s.addr < 4294967296
  block0 : -9223372036854775808 ≤ s.block
  block1 : s.block ≤ 9223372036854775807
  frm0 : -9223372036854775808 ≤ s.frm
  frm1 : s.frm ≤ 9223372036854775807
  til0 : -9223372036854775808 ≤ s.til
  til1 : s.til ≤ 9223372036854775807

def OkAll (l : List Sp) : Prop := ∀ s ∈ l, s.Ok

def Sp.here (s : Sp) (a k : Int) : Bool := decide (s.addr = a) && decide (s.block = k)

theorem here_iff {s : Sp} {a k : Int} : s.here a k = true ↔ s.addr = a ∧ s.block = k := by simp [Sp.here]

/-- The place of the open span of a block. -/
def openI (l : List Sp) (a k : Int) : Option Nat := l.findIdx? (fun s => s.opn && s.here a k)

def OpenAt (l : List Sp) (a k : Int) (i : Nat) : Prop := ∃ s, l[i]? = some s ∧ s.opn = true ∧ s.addr = a ∧ s.block = k

/-- No block has two open spans. -/
def Uniq (l : List Sp) : Prop := ∀ a k i j, OpenAt l a k i → OpenAt l a k j → i = j

theorem openI_at {l : List Sp} {a k : Int} {i : Nat} (h : openI l a k = some i) : OpenAt l a k i := by
  obtain ⟨hi, hp, _⟩ := List.findIdx?_eq_some_iff_getElem.1 h
  simp only [Bool.and_eq_true, here_iff] at hp
  exact ⟨l[i], List.getElem?_eq_getElem hi, hp.1, hp.2⟩

theorem openI_none {l : List Sp} {a k : Int} (h : openI l a k = none) (i : Nat) : ¬ OpenAt l a k i := by
  rintro ⟨s, hs, h1, h2⟩
  have := List.findIdx?_eq_none_iff.1 h s (List.mem_of_getElem? hs)
  simp [h1, here_iff.2 h2] at this

theorem openI_iff {l : List Sp} (hU : Uniq l) {a k : Int} {i : Nat} : openI l a k = some i ↔ OpenAt l a k i := by
  refine ⟨openI_at, fun h => ?_⟩
  cases ho : openI l a k with
  | none => exact absurd h (openI_none ho i)
  | some j => rw [hU a k j i (openI_at ho) h]

theorem openI_lt {l : List Sp} {a k : Int} {i : Nat} (h : openI l a k = some i) : i < l.length := by
  obtain ⟨s, hs, _⟩ := openI_at h
  exact (List.getElem?_eq_some_iff.1 hs).1

theorem openI_ext {l l' : List Sp} (hU' : Uniq l') {a k a' k' : Int} (h : ∀ i, OpenAt l' a' k' i ↔ OpenAt l a k i) : openI l' a' k' = openI l a k := by
  cases ho : openI l a k with
  | none =>
    cases ho' : openI l' a' k' with
    | none => rfl
    | some j => exact absurd ((h j).1 (openI_at ho')) (openI_none ho j)
  | some j => exact (openI_iff hU').2 ((h j).2 (openI_at ho))

def shutS (s : Sp) (t : Int) : Sp := ⟨s.sub, s.addr, s.block, s.frm, max s.frm t, false⟩

/-- The time before. -/
def aheadT (t : Int) : Int := max t (-9223372036854775807) - 1

/-- The span of a place is shut. -/
def shutAt (l : List Sp) (i : Nat) (t : Int) : List Sp := l.set i (shutS (l.getD i default) t)

theorem shutAt_length (l : List Sp) (i : Nat) (t : Int) : (shutAt l i t).length = l.length := by simp [shutAt]

def shutI (l : List Sp) (o : Option Nat) (t : Int) : List Sp :=
  match o with
  | some i => shutAt l i t
  | none => l

theorem shutI_length (l : List Sp) (o : Option Nat) (t : Int) : (shutI l o t).length = l.length := by
  cases o <;> simp [shutI, shutAt_length]

def newS (e : En) : Sp := ⟨e.sub, e.addr, e.block, e.time, 0, true⟩

/-- What one entry does. -/
def stepS (l : List Sp) (e : En) : List Sp :=
  if e.kind = 2 then shutI l (openI l e.addr e.block) (aheadT e.time) ++ [newS e]
  else if e.kind = 3 then shutI l (openI l e.addr e.block) e.time
  else l

def spans (l : List En) : List Sp := l.foldl stepS []

theorem spans_snoc (l : List En) (e : En) : spans (l ++ [e]) = stepS (spans l) e := by simp [spans, List.foldl_append]

theorem openAt_set {l : List Sp} {i : Nat} {t : Int} {a k : Int} {j : Nat} : OpenAt (shutAt l i t) a k j ↔ j ≠ i ∧ OpenAt l a k j := by
  unfold OpenAt shutAt
  constructor
  · rintro ⟨s, hs, h1, h2⟩
    rw [List.getElem?_set] at hs
    by_cases hij : i = j
    · subst hij
      simp only [if_pos] at hs
      split at hs
      · injection hs with hs
        subst hs
        cases h1
      · cases hs
    · rw [if_neg hij] at hs
      exact ⟨fun h => hij h.symm, s, hs, h1, h2⟩
  · rintro ⟨hne, s, hs, h1, h2⟩
    exact ⟨s, by rw [List.getElem?_set, if_neg (fun h => hne h.symm)]; exact hs, h1, h2⟩

theorem openAt_snoc {l : List Sp} {s : Sp} {a k : Int} {j : Nat} : OpenAt (l ++ [s]) a k j ↔ OpenAt l a k j ∨ (j = l.length ∧ s.opn = true ∧ s.addr = a ∧ s.block = k) := by
  unfold OpenAt
  constructor
  · rintro ⟨u, hu, h1, h2⟩
    rcases Nat.lt_trichotomy j l.length with h | h | h
    · rw [List.getElem?_append_left h] at hu
      exact .inl ⟨u, hu, h1, h2⟩
    · subst h
      simp at hu
      subst hu
      exact .inr ⟨rfl, h1, h2⟩
    · rw [List.getElem?_eq_none (by simp; omega)] at hu
      cases hu
  · rintro (⟨u, hu, h1, h2⟩ | ⟨rfl, h1, h2⟩)
    · exact ⟨u, by rw [List.getElem?_append_left (List.getElem?_eq_some_iff.1 hu).1]; exact hu, h1, h2⟩
    · exact ⟨s, by simp, h1, h2⟩

/-- Behind the shutting of what is open there: nothing is open there, all else is as it was. -/
theorem openAt_shutI {l : List Sp} (hU : Uniq l) {a k : Int} {t : Int} {a' k' : Int} {j : Nat} :
    OpenAt (shutI l (openI l a k) t) a' k' j ↔ (¬ (a' = a ∧ k' = k)) ∧ OpenAt l a' k' j := by
  cases ho : openI l a k with
  | none =>
    refine ⟨fun h => ⟨?_, h⟩, fun h => h.2⟩
    rintro ⟨rfl, rfl⟩
    exact openI_none ho j h
  | some i =>
    show OpenAt (shutAt l i t) a' k' j ↔ _
    rw [openAt_set]
    have hi := openI_at ho
    refine ⟨fun ⟨h1, h2⟩ => ⟨?_, h2⟩, fun ⟨h1, h2⟩ => ⟨?_, h2⟩⟩
    · rintro ⟨rfl, rfl⟩
      exact h1 (hU _ _ _ _ h2 hi)
    · rintro rfl
      obtain ⟨s, hs, _, h3, h4⟩ := hi
      obtain ⟨s', hs', _, h5, h6⟩ := h2
      rw [hs] at hs'
      injection hs' with hs'
      subst hs'
      exact h1 ⟨h5.symm.trans h3, h6.symm.trans h4⟩

theorem uniq_shutI {l : List Sp} (hU : Uniq l) (a k t : Int) : Uniq (shutI l (openI l a k) t) := fun a' k' i j h1 h2 =>
  hU a' k' i j ((openAt_shutI hU).1 h1).2 ((openAt_shutI hU).1 h2).2

theorem uniq_nil : Uniq [] := fun a k i j h => by obtain ⟨s, hs, _⟩ := h; simp at hs

theorem uniq_step {l : List Sp} (hU : Uniq l) (e : En) : Uniq (stepS l e) := by
  unfold stepS
  split
  · intro a k i j h1 h2
    rw [openAt_snoc, openAt_shutI hU] at h1 h2
    rcases h1 with ⟨h1a, h1⟩ | ⟨rfl, _, h1⟩ <;> rcases h2 with ⟨h2a, h2⟩ | ⟨rfl, _, h2⟩
    · exact hU _ _ _ _ h1 h2
    · exact absurd ⟨h2.1.symm, h2.2.symm⟩ h1a
    · exact absurd ⟨h1.1.symm, h1.2.symm⟩ h2a
    · rfl
  · split
    · exact uniq_shutI hU _ _ _
    · exact hU

theorem uniq_spans (l : List En) : Uniq (spans l) := by
  unfold spans
  suffices H : ∀ (l : List En) (acc : List Sp), Uniq acc → Uniq (l.foldl stepS acc) from H l [] uniq_nil
  intro l
  induction l with
  | nil => intro acc h; exact h
  | cons e l ih => intro acc h; exact ih _ (uniq_step h e)

/-- What is open behind a grant. -/
theorem openI_grant {l : List Sp} (hU : Uniq l) {e : En} (he : e.kind = 2) (a k : Int) :
    openI (stepS l e) a k = if a = e.addr ∧ k = e.block then some l.length else openI l a k := by
  have hU' := uniq_step hU e
  split
  · rename_i h
    rw [openI_iff hU']
    unfold stepS
    rw [if_pos he, openAt_snoc]
    exact .inr ⟨(shutI_length _ _ _).symm, rfl, h.1.symm, h.2.symm⟩
  · rename_i h
    refine openI_ext hU' fun i => ?_
    unfold stepS
    rw [if_pos he, openAt_snoc, openAt_shutI hU]
    refine ⟨?_, fun h' => .inl ⟨h, h'⟩⟩
    rintro (⟨_, h'⟩ | ⟨_, _, h1, h2⟩)
    · exact h'
    · exact absurd ⟨h1.symm, h2.symm⟩ h

theorem openI_release {l : List Sp} (hU : Uniq l) {e : En} (he : e.kind = 3) (a k : Int) :
    openI (stepS l e) a k = if a = e.addr ∧ k = e.block then none else openI l a k := by
  have hU' := uniq_step hU e
  have hs : stepS l e = shutI l (openI l e.addr e.block) e.time := by
    unfold stepS; rw [if_neg (by omega), if_pos he]
  split
  · rename_i h
    cases ho : openI (stepS l e) a k with
    | none => rfl
    | some j =>
      have := openI_at ho
      rw [hs, openAt_shutI hU] at this
      exact absurd h this.1
  · rename_i h
    refine openI_ext hU' fun i => ?_
    rw [hs, openAt_shutI hU]
    exact ⟨fun h' => h'.2, fun h' => ⟨h, h'⟩⟩

/-! ### The numbers stay in their kinds -/
theorem ok_shut {s : Sp} (h : s.Ok) {t : Int} (h0 : -9223372036854775808 ≤ t) (h1 : t ≤ 9223372036854775807) : (shutS s t).Ok :=
  ⟨h.sub0, h.sub1, h.addr0, h.addr1, h.block0, h.block1, h.frm0, h.frm1, by show _ ≤ max _ _; have := h.frm0; omega, by show max _ _ ≤ _; have := h.frm1; omega⟩

theorem ok_shutI {l : List Sp} (h : OkAll l) {o : Option Nat} (ho : ∀ i, o = some i → i < l.length) {t : Int} (h0 : -9223372036854775808 ≤ t) (h1 : t ≤ 9223372036854775807) : OkAll (shutI l o t) := by
  cases o with
  | none => exact h
  | some i =>
    intro s hs
    rcases List.mem_or_eq_of_mem_set hs with h' | rfl
    · exact h s h'
    · have hi := ho i rfl
      refine ok_shut (h _ ?_) h0 h1
      rw [List.getD_eq_getElem?_getD, List.getElem?_eq_getElem hi]
      exact List.getElem_mem hi

theorem aheadT_bd {t : Int} (h0 : -9223372036854775808 ≤ t) (h1 : t ≤ 9223372036854775807) : -9223372036854775808 ≤ aheadT t ∧ aheadT t ≤ 9223372036854775807 := by unfold aheadT; omega

theorem ok_new {e : En} (h : e.Ok) : (newS e).Ok := ⟨h.sub0, h.sub1, h.addr0, h.addr1, h.block0, h.block1, h.time0, h.time1, by simp [newS], by simp [newS]⟩

theorem ok_step {l : List Sp} (h : OkAll l) {e : En} (he : e.Ok) : OkAll (stepS l e) := by
  unfold stepS
  split
  · intro s hs
    rcases List.mem_append.1 hs with hs | hs
    · exact ok_shutI h (fun i hi => openI_lt hi) (aheadT_bd he.time0 he.time1).1 (aheadT_bd he.time0 he.time1).2 s hs
    · rw [List.mem_singleton.1 hs]; exact ok_new he
  · split
    · exact ok_shutI h (fun i hi => openI_lt hi) he.time0 he.time1
    · exact h

theorem ok_spans {l : List En} (h : ∀ e ∈ l, e.Ok) : OkAll (spans l) := by
  unfold spans
  suffices H : ∀ (l : List En) (acc : List Sp), (∀ e ∈ l, e.Ok) → OkAll acc → OkAll (l.foldl stepS acc) from H l [] h (fun s hs => by cases hs)
  intro l
  induction l with
  | nil => intro acc _ h; exact h
  | cons e l ih => intro acc h1 h2; exact ih _ (fun x hx => h1 x (by simp [hx])) (ok_step h2 (h1 e (by simp)))

theorem step_length (l : List Sp) (e : En) : (stepS l e).length ≤ l.length + 1 := by
  unfold stepS
  split
  · simp [shutI_length]
  · split
    · simp [shutI_length]
    · omega

theorem spans_length (l : List En) : (spans l).length ≤ l.length := by
  unfold spans
  suffices H : ∀ (l : List En) (acc : List Sp), (l.foldl stepS acc).length ≤ acc.length + l.length by simpa using H l []
  intro l
  induction l with
  | nil => intro acc; simp
  | cons e l ih => intro acc; have := ih (stepS acc e); have := step_length acc e; simp only [List.foldl_cons, List.length_cons]; omega

/-! ### Who had a block -/
def hit (s : Sp) (a k t : Int) : Bool := s.here a k && decide (s.frm ≤ t) && (s.opn || decide (t ≤ s.til))

theorem hit_iff {s : Sp} {a k t : Int} : hit s a k t = true ↔ (s.addr = a ∧ s.block = k) ∧ s.frm ≤ t ∧ (s.opn = true ∨ t ≤ s.til) := by
  simp [hit, here_iff, and_assoc]

/-- Who had a block at a time, as the spans come. -/
def subsAt (l : List Sp) (a k t : Int) : List Int := (l.filter (fun s => hit s a k t)).map Sp.sub

theorem mem_subsAt {l : List Sp} {a k t x : Int} : x ∈ subsAt l a k t ↔ ∃ s ∈ l, hit s a k t = true ∧ s.sub = x := by
  simp [subsAt, and_assoc]

/-- A strictly rising list of those. -/
structure WhoOf (l : List Sp) (a k t : Int) (r : List Int) : Prop where
  up : r.Pairwise (· < ·)
  mem : ∀ x, x ∈ r ↔ x ∈ subsAt l a k t

theorem rising_unique : ∀ {r r' : List Int}, r.Pairwise (· < ·) → r'.Pairwise (· < ·) → (∀ x, x ∈ r ↔ x ∈ r') → r = r'
  | [], [], _, _, _ => rfl
  | [], y :: r', _, _, h => by have := (h y).2 (by simp); cases this
  | x :: r, [], _, _, h => by have := (h x).1 (by simp); cases this
  | x :: r, y :: r', h1, h2, h => by
    obtain ⟨h1a, h1b⟩ := List.pairwise_cons.1 h1
    obtain ⟨h2a, h2b⟩ := List.pairwise_cons.1 h2
    have hxy : x = y := by
      rcases List.mem_cons.1 ((h x).1 (by simp)) with e | e
      · exact e
      · rcases List.mem_cons.1 ((h y).2 (by simp)) with e' | e'
        · exact e'.symm
        · have := h2a x e; have := h1a y e'; omega
    subst hxy
    congr 1
    refine rising_unique h1b h2b fun z => ?_
    constructor
    · intro hz
      rcases List.mem_cons.1 ((h z).1 (by simp [hz])) with e | e
      · subst e; have := h1a z hz; omega
      · exact e
    · intro hz
      rcases List.mem_cons.1 ((h z).2 (by simp [hz])) with e | e
      · subst e; have := h2a z hz; omega
      · exact e

theorem WhoOf.one {l : List Sp} {a k t : Int} {r r' : List Int} (h : WhoOf l a k t r) (h' : WhoOf l a k t r') : r = r' :=
  rising_unique h.up h'.up fun x => (h.mem x).trans (h'.mem x).symm

theorem rising_length {r : List Int} (h : r.Pairwise (· < ·)) : r.Nodup := h.imp (fun h => by omega)

/-! ### Entries behind -/
theorem subsAt_set {l : List Sp} {i : Nat} {s s' : Sp} {a k t : Int} (hi : l[i]? = some s) (hh : hit s' a k t = hit s a k t) (hs : s'.sub = s.sub) : subsAt (l.set i s') a k t = subsAt l a k t := by
  unfold subsAt
  induction l generalizing i with
  | nil => rfl
  | cons x l ih =>
    cases i with
    | zero =>
      simp at hi
      subst hi
      simp only [List.set_cons_zero, List.filter_cons, hh]
      split <;> simp [hs]
    | succ i =>
      simp only [List.getElem?_cons_succ] at hi
      have := ih hi
      simp only [List.set_cons_succ, List.filter_cons]
      split <;> simp [this]

theorem subsAt_shutI {l : List Sp} {a' k' u : Int} {a k t : Int} (h : t ≤ u) : subsAt (shutI l (openI l a' k') u) a k t = subsAt l a k t := by
  cases ho : openI l a' k' with
  | none => rfl
  | some i =>
    obtain ⟨s, hs, h1, _⟩ := openI_at ho
    have hi := (List.getElem?_eq_some_iff.1 hs).1
    have hd : l.getD i default = s := by rw [List.getD_eq_getElem?_getD, hs]; rfl
    refine subsAt_set hs ?_ ?_
    · rw [hd]
      apply Bool.eq_iff_iff.2
      rw [hit_iff, hit_iff]
      simp only [shutS, h1]
      constructor
      · rintro ⟨h1, h2, h3⟩; exact ⟨h1, h2, .inl trivial⟩
      · rintro ⟨h1, h2, h3⟩; exact ⟨h1, h2, .inr (by omega)⟩
    · rw [hd]; rfl

theorem subsAt_step {l : List Sp} {e : En} {a k t : Int} (h : t + 1 ≤ e.time) (h0 : -9223372036854775808 ≤ t) : subsAt (stepS l e) a k t = subsAt l a k t := by
  unfold stepS
  split
  · have : subsAt (shutI l (openI l e.addr e.block) (aheadT e.time) ++ [newS e]) a k t = subsAt (shutI l (openI l e.addr e.block) (aheadT e.time)) a k t := by
      unfold subsAt
      rw [List.filter_append]
      have : hit (newS e) a k t = false := by
        cases hh : hit (newS e) a k t
        · rfl
        · have := (hit_iff.1 hh).2.1
          simp only [newS] at this
          omega
      simp [this]
    rw [this]
    exact subsAt_shutI (by unfold aheadT; omega)
  · split
    · exact subsAt_shutI (by omega)
    · rfl

theorem subsAt_more {l more : List En} {a k t : Int} (h : ∀ e ∈ more, t + 1 ≤ e.time) (h0 : -9223372036854775808 ≤ t) : subsAt (spans (l ++ more)) a k t = subsAt (spans l) a k t := by
  unfold spans
  rw [List.foldl_append]
  generalize l.foldl stepS [] = acc
  induction more generalizing acc with
  | nil => rfl
  | cons e more ih => rw [List.foldl_cons, ih (fun x hx => h x (by simp [hx])), subsAt_step (h e (by simp)) h0]

/-! ### Spans apart -/
/-- The last time of a span. -/
def endS (s : Sp) : Int := if s.opn then 9223372036854775807 else s.til

def meetB (x y : Sp) : Bool := (x.opn || decide (x.til ≥ y.frm)) && (y.opn || decide (y.til ≥ x.frm)) && (x.opn || decide (x.til ≥ x.frm)) && (y.opn || decide (y.til ≥ y.frm))

def fullB (s : Sp) : Bool := decide (s.frm ≤ endS s)

theorem or_end {s : Sp} {x : Int} (hx : x ≤ 9223372036854775807) : (s.opn || decide (s.til ≥ x)) = decide (x ≤ endS s) := by
  unfold endS
  cases s.opn <;> simp [hx]

theorem meetB_eq {x y : Sp} (hx : x.Ok) (hy : y.Ok) : meetB x y = (decide (y.frm ≤ endS x) && decide (x.frm ≤ endS y) && fullB x && fullB y) := by
  unfold meetB fullB
  rw [or_end hy.frm1, or_end hx.frm1, or_end hx.frm1, or_end hy.frm1]

/-- Two spans of one block with a time in common. -/
def clash (x y : Sp) : Bool := decide (x.addr = y.addr) && decide (x.block = y.block) && meetB x y

def Apart (l : List Sp) : Prop := l.Pairwise (fun x y => clash x y = false)

theorem meetB_comm (x y : Sp) : meetB x y = meetB y x := by
  unfold meetB
  cases x.opn <;> cases y.opn <;> simp <;> grind

theorem clash_comm (x y : Sp) : clash x y = clash y x := by
  unfold clash
  rw [meetB_comm]
  congr 2
  · exact decide_eq_decide.2 ⟨Eq.symm, Eq.symm⟩
  · exact decide_eq_decide.2 ⟨Eq.symm, Eq.symm⟩

/-- If Apart, one at most is told. -/
theorem apart_one {l : List Sp} (h : Apart l) {a k t : Int} {r : List Int} (hr : WhoOf l a k t r) : r.length ≤ 1 := by
  match r, hr with
  | [], _ => simp
  | [_], _ => simp
  | x :: y :: r, hr =>
    exfalso
    have hxy : x < y := (List.pairwise_cons.1 hr.up).1 y (by simp)
    obtain ⟨s, hs, hs1, hs2⟩ := mem_subsAt.1 ((hr.mem x).1 (by simp))
    obtain ⟨u, hu, hu1, hu2⟩ := mem_subsAt.1 ((hr.mem y).1 (by simp))
    have hne : s ≠ u := by rintro rfl; omega
    have hc : clash s u = true := by
      rw [hit_iff] at hs1 hu1
      unfold clash meetB
      rcases hs1.2.2 with h1 | h1 <;> rcases hu1.2.2 with h2 | h2 <;> simp [h1, h2, hs1.1.1, hs1.1.2, hu1.1.1, hu1.1.2] <;> omega
    have hall : ∀ {l : List Sp}, Apart l → ∀ s ∈ l, ∀ u ∈ l, s ≠ u → clash s u = false := by
      intro l hl
      induction l with
      | nil => intro s hs; cases hs
      | cons z l ih =>
        obtain ⟨h1, h2⟩ := List.pairwise_cons.1 hl
        intro s hs u hu hne
        rcases List.mem_cons.1 hs with e1 | hs
        · rcases List.mem_cons.1 hu with e2 | hu
          · exact absurd (e1.trans e2.symm) hne
          · rw [e1]; exact h1 u hu
        · rcases List.mem_cons.1 hu with e2 | hu
          · rw [e2, clash_comm]; exact h1 s hs
          · exact ih h2 s hs u hu hne
    rw [hall h s hs u hu hne] at hc
    cases hc

/-! ### The rows of the blocks -/
/-- The spans of a block that have a time. -/
def rowOf (l : List Sp) (a k : Int) : List Sp := l.filter (fun s => s.here a k && fullB s)

theorem rowOf_snoc (l : List Sp) (s : Sp) (a k : Int) : rowOf (l ++ [s]) a k = rowOf l a k ++ if (s.here a k && fullB s) = true then [s] else [] := by
  unfold rowOf
  rw [List.filter_append]
  congr 1
  simp [List.filter_cons]

theorem mem_rowOf {l : List Sp} {a k : Int} {s : Sp} : s ∈ rowOf l a k ↔ s ∈ l ∧ (s.addr = a ∧ s.block = k) ∧ fullB s = true := by
  simp [rowOf, here_iff]

theorem pair_filter {α : Type} {R : α → α → Prop} {p : α → Bool} : ∀ {l : List α}, (l.filter p).Pairwise R ↔ l.Pairwise (fun x y => p x = true → p y = true → R x y) := List.pairwise_filter

/-- Apart, block by block. -/
theorem apart_rows {l : List Sp} (hok : OkAll l) : Apart l ↔ ∀ a k, (rowOf l a k).Pairwise (fun x y => ¬ (y.frm ≤ endS x ∧ x.frm ≤ endS y)) := by
  constructor
  · intro h a k
    unfold rowOf
    rw [pair_filter]
    refine List.Pairwise.imp_of_mem ?_ h
    intro x y hx hy hxy h1 h2 h3
    simp only [Bool.and_eq_true, here_iff] at h1 h2
    have : clash x y = true := by
      unfold clash
      rw [meetB_eq (hok x hx) (hok y hy)]
      simp [h1.1.1, h1.1.2, h2.1.1, h2.1.2, h1.2, h2.2, h3.1, h3.2]
    rw [hxy] at this
    cases this
  · intro h
    unfold Apart
    have : l.Pairwise (fun x y => x ∈ l ∧ y ∈ l ∧ ((x.addr = y.addr ∧ x.block = y.block) → fullB x = true → fullB y = true → ¬ (y.frm ≤ endS x ∧ x.frm ≤ endS y))) := by
      have hall : ∀ a k, l.Pairwise (fun x y => (x.here a k && fullB x) = true → (y.here a k && fullB y) = true → ¬ (y.frm ≤ endS x ∧ x.frm ≤ endS y)) := fun a k => pair_filter.1 (h a k)
      refine List.Pairwise.imp_of_mem (R := fun x y => ∀ a k, (x.here a k && fullB x) = true → (y.here a k && fullB y) = true → ¬ (y.frm ≤ endS x ∧ x.frm ≤ endS y)) ?_ ?_
      · intro x y hx hy hxy
        refine ⟨hx, hy, fun he h1 h2 => hxy y.addr y.block ?_ ?_⟩
        · simp [here_iff, he, h1]
        · simp [here_iff, h2]
      · clear h hok
        induction l with
        | nil => exact List.Pairwise.nil
        | cons x l ih =>
          refine List.pairwise_cons.2 ⟨fun y hy a k => ?_, ih fun a k => (List.pairwise_cons.1 (hall a k)).2⟩
          exact (List.pairwise_cons.1 (hall a k)).1 y hy
    refine this.imp ?_
    rintro x y ⟨hx, hy, hxy⟩
    cases hc : clash x y
    · rfl
    · exfalso
      unfold clash at hc
      rw [meetB_eq (hok x hx) (hok y hy)] at hc
      simp only [Bool.and_eq_true, decide_eq_true_eq] at hc
      exact hxy hc.1 hc.2.1.2 hc.2.2 hc.2.1.1

/-- Of spans in the order of their beginnings, each with a time: no two meet where no neighbours do. -/
theorem chain_apart : ∀ {r : List Sp}, r.Pairwise (fun x y => x.frm ≤ y.frm) → (∀ s ∈ r, s.frm ≤ endS s) → (∀ i x y, r[i]? = some x → r[i + 1]? = some y → endS x < y.frm) → r.Pairwise (fun x y => endS x < y.frm)
  | [], _, _, _ => List.Pairwise.nil
  | [x], _, _, _ => by simp
  | x :: y :: r, hs, hf, ha => by
    have ih := chain_apart (List.pairwise_cons.1 hs).2 (fun s h => hf s (by simp [h])) (fun i u v hu hv => ha (i + 1) u v (by simpa using hu) (by simpa using hv))
    refine List.pairwise_cons.2 ⟨fun z hz => ?_, ih⟩
    have h0 := ha 0 x y rfl rfl
    rcases List.mem_cons.1 hz with rfl | hz
    · exact h0
    · have h1 := (List.pairwise_cons.1 ih).1 z hz
      have h2 := hf y (by simp)
      omega

theorem row_apart {r r' : List Sp} (hp : r.Perm r') (hs : r.Pairwise (fun x y => x.frm ≤ y.frm)) (hf : ∀ s ∈ r, s.frm ≤ endS s) :
    r'.Pairwise (fun x y => ¬ (y.frm ≤ endS x ∧ x.frm ≤ endS y)) ↔ ∀ i x y, r[i]? = some x → r[i + 1]? = some y → endS x < y.frm := by
  have hsym : ∀ {x y : Sp}, ¬ (y.frm ≤ endS x ∧ x.frm ≤ endS y) → ¬ (x.frm ≤ endS y ∧ y.frm ≤ endS x) := fun h h' => h ⟨h'.2, h'.1⟩
  rw [← hp.pairwise_iff hsym]
  constructor
  · intro h i x y hx hy
    have hi := (List.getElem?_eq_some_iff.1 hx)
    have hi1 := (List.getElem?_eq_some_iff.1 hy)
    have h1 := List.pairwise_iff_getElem.1 h i (i + 1) hi.1 hi1.1 (by omega)
    have h2 := List.pairwise_iff_getElem.1 hs i (i + 1) hi.1 hi1.1 (by omega)
    rw [hi.2, hi1.2] at h1 h2
    have h3 := hf y (List.mem_of_getElem? hy)
    by_cases hc : endS x < y.frm
    · exact hc
    · exact absurd ⟨by omega, by omega⟩ h1
  · intro h
    exact (chain_apart hs hf h).imp (fun h h' => by omega)

end Go.Proofs.YtafkkehcacdodaaGreat
