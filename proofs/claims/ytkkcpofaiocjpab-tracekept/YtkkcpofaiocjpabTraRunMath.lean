/- Runs and the tree that they make: the mathematics of the index. -/
import Derived.Test.YtkkcpofaiocjpabTraMath
set_option maxRecDepth 100000
namespace Go.Proofs.Ytkkcpofaiocjpab

/-- A run in numbers. -/
structure Ru where
  sub : Int
  frm : Int
  til : Int
  lat : Int
deriving Inhabited

/-- A run that a program may hold. -/
structure Ru.Ok (r : Ru) : Prop where
  sub0 : 0 ≤ r.sub
  sub1 : r.sub < 4294967296
  frm0 : -9223372036854775808 ≤ r.frm
  frm1 : r.frm ≤ 9223372036854775807
  til0 : -9223372036854775808 ≤ r.til
  til1 : r.til ≤ 9223372036854775807

def ruHit (r : Ru) (t : Int) : Bool := decide (r.frm ≤ t) && decide (t ≤ r.til)

theorem ruHit_iff {r : Ru} {t : Int} : ruHit r t = true ↔ r.frm ≤ t ∧ t ≤ r.til := by simp [ruHit]

/-- What the map says of a subscriber: its last run's place. -/
def IdxOf (out : List Ru) (u : Int) (o : Option Nat) : Prop :=
  match o with
  | none => ∀ r ∈ out, r.sub ≠ u
  | some i => (∃ r, out[i]? = some r ∧ r.sub = u) ∧ ∀ j r, i < j → out[j]? = some r → r.sub ≠ u

/-- What runs has made of the spans done. -/
structure RunsOf (done : List Sp) (out : List Ru) : Prop where
  ok : ∀ r ∈ out, r.Ok
  full : ∀ r ∈ out, r.frm ≤ r.til
  from_ : ∀ r ∈ out, ∃ s ∈ done, s.frm = r.frm
  up : out.Pairwise (fun x y => x.frm ≤ y.frm)
  disj : out.Pairwise (fun x y => x.sub = y.sub → x.til < y.frm)
  cov : ∀ u t, (∃ s ∈ done, s.sub = u ∧ s.frm ≤ t ∧ t ≤ endS s) ↔ ∃ r ∈ out, r.sub = u ∧ r.frm ≤ t ∧ t ≤ r.til

theorem runsOf_nil : RunsOf [] [] := ⟨by simp, by simp, by simp, List.Pairwise.nil, List.Pairwise.nil, by simp⟩

theorem idx_nil (u : Int) : IdxOf [] u none := by simp [IdxOf]

theorem idx_snoc {out : List Ru} {u : Int} {o : Option Nat} (h : IdxOf out u o) (r : Ru) : IdxOf (out ++ [r]) u (if u = r.sub then some out.length else o) := by
  by_cases e : u = r.sub
  · rw [if_pos e]
    refine ⟨⟨r, by simp, e.symm⟩, fun j x hj hx => ?_⟩
    have : j < (out ++ [r]).length := (List.getElem?_eq_some_iff.1 hx).1
    simp at this
    omega
  · rw [if_neg e]
    cases o with
    | none =>
      intro x hx
      rcases List.mem_append.1 hx with hx | hx
      · exact h x hx
      · simp at hx; subst hx; exact fun h => e h.symm
    | some i =>
      obtain ⟨⟨x, hx, hu⟩, h2⟩ := h
      have hi : i < out.length := (List.getElem?_eq_some_iff.1 hx).1
      refine ⟨⟨x, by rw [List.getElem?_append_left hi]; exact hx, hu⟩, fun j y hj hy => ?_⟩
      by_cases hjl : j < out.length
      · rw [List.getElem?_append_left hjl] at hy
        exact h2 j y hj hy
      · rw [List.getElem?_append_right (by omega)] at hy
        have : j - out.length = 0 := by
          have := (List.getElem?_eq_some_iff.1 hy).1
          simp at this; omega
        rw [this] at hy
        simp at hy
        subst hy
        exact fun h => e h.symm

theorem idx_set {out : List Ru} {u : Int} {o : Option Nat} (h : IdxOf out u o) {i : Nat} {r r' : Ru} (hi : out[i]? = some r) (hs : r'.sub = r.sub) : IdxOf (out.set i r') u o := by
  have hget : ∀ (j : Nat) (x : Ru), (out.set i r')[j]? = some x → ∃ y : Ru, out[j]? = some y ∧ y.sub = x.sub := fun j x hx => by
    by_cases e : i = j
    · subst e
      rw [List.getElem?_set_self (List.getElem?_eq_some_iff.1 hi).1] at hx
      cases hx
      exact ⟨r, hi, hs.symm⟩
    · rw [List.getElem?_set_ne e] at hx
      exact ⟨x, hx, rfl⟩
  cases o with
  | none =>
    intro x hx
    obtain ⟨j, hj⟩ := List.getElem?_of_mem hx
    obtain ⟨y, hy, he⟩ := hget j x hj
    rw [← he]
    exact h y (List.mem_of_getElem? hy)
  | some k =>
    obtain ⟨⟨x, hx, hu⟩, h2⟩ := h
    refine ⟨?_, fun j y hj hy => ?_⟩
    · by_cases e : i = k
      · subst e
        rw [hi] at hx
        cases hx
        exact ⟨r', List.getElem?_set_self (List.getElem?_eq_some_iff.1 hi).1, by rw [hs]; exact hu⟩
      · exact ⟨x, by rw [List.getElem?_set_ne e]; exact hx, hu⟩
    · obtain ⟨z, hz, he⟩ := hget j y hy
      rw [← he]
      exact h2 j z hj hz

/-- A span that begins behind the last run of its subscriber: a run more. -/
theorem RunsOf.add {done : List Sp} {out : List Ru} (h : RunsOf done out) {s : Sp} (hok : s.Ok) (hfull : s.frm ≤ endS s) (hup : ∀ x ∈ done, x.frm ≤ s.frm) {o : Option Nat} (hi : IdxOf out s.sub o)
    (hlast : ∀ i r, o = some i → out[i]? = some r → r.til < s.frm) : RunsOf (done ++ [s]) (out ++ [⟨s.sub, s.frm, endS s, 0⟩]) := by
  have hbound : ∀ r ∈ out, r.frm ≤ s.frm := fun r hr => by
    obtain ⟨x, hx, e⟩ := h.from_ r hr
    rw [← e]; exact hup x hx
  have hend : -9223372036854775808 ≤ endS s ∧ endS s ≤ 9223372036854775807 := by
    unfold endS
    split
    · omega
    · exact ⟨hok.til0, hok.til1⟩
  refine ⟨?_, ?_, ?_, ?_, ?_, ?_⟩
  · intro r hr
    rcases List.mem_append.1 hr with hr | hr
    · exact h.ok r hr
    · simp at hr; subst hr
      exact ⟨hok.sub0, hok.sub1, hok.frm0, hok.frm1, hend.1, hend.2⟩
  · intro r hr
    rcases List.mem_append.1 hr with hr | hr
    · exact h.full r hr
    · simp at hr; subst hr; exact hfull
  · intro r hr
    rcases List.mem_append.1 hr with hr | hr
    · obtain ⟨x, hx, e⟩ := h.from_ r hr
      exact ⟨x, by simp [hx], e⟩
    · simp at hr; subst hr; exact ⟨s, by simp, rfl⟩
  · rw [List.pairwise_append]
    exact ⟨h.up, List.pairwise_singleton _ _, fun a ha b hb => by simp at hb; subst hb; exact hbound a ha⟩
  · rw [List.pairwise_append]
    refine ⟨h.disj, List.pairwise_singleton _ _, fun a ha b hb e => ?_⟩
    simp at hb
    subst hb
    cases o with
    | none => exact absurd e (hi a ha)
    | some i =>
      obtain ⟨⟨r, hr, hu⟩, h2⟩ := hi
      obtain ⟨j, hj⟩ := List.getElem?_of_mem ha
      have hl := hlast i r rfl hr
      rcases Nat.lt_trichotomy j i with hlt | heq | hgt
      · obtain ⟨hjl, ej⟩ := List.getElem?_eq_some_iff.1 hj
        obtain ⟨hil, ei⟩ := List.getElem?_eq_some_iff.1 hr
        have := List.pairwise_iff_getElem.1 h.disj j i hjl hil hlt (by rw [ej, ei, hu]; exact e)
        rw [ej, ei] at this
        have := h.full r (List.mem_of_getElem? hr)
        show a.til < s.frm
        omega
      · subst heq
        rw [hj] at hr
        cases hr
        exact hl
      · exact absurd e (h2 j a hgt hj)
  · intro u t
    have := h.cov u t
    constructor
    · rintro ⟨x, hx, h1, h2, h3⟩
      rcases List.mem_append.1 hx with hx | hx
      · obtain ⟨r, hr, q⟩ := this.1 ⟨x, hx, h1, h2, h3⟩
        exact ⟨r, by simp [hr], q⟩
      · simp at hx; subst hx
        exact ⟨_, List.mem_append.2 (.inr (List.mem_singleton.2 rfl)), h1, h2, h3⟩
    · rintro ⟨r, hr, h1, h2, h3⟩
      rcases List.mem_append.1 hr with hr | hr
      · obtain ⟨x, hx, q⟩ := this.2 ⟨r, hr, h1, h2, h3⟩
        exact ⟨x, by simp [hx], q⟩
      · simp at hr; subst hr
        exact ⟨s, by simp, h1, h2, h3⟩

/-- A span that meets the last run of its subscriber: the run goes on. -/
theorem RunsOf.join {done : List Sp} {out : List Ru} (h : RunsOf done out) {s : Sp} (hok : s.Ok) (hfull : s.frm ≤ endS s) (hup : ∀ x ∈ done, x.frm ≤ s.frm) {i : Nat} (hi : IdxOf out s.sub (some i)) {r : Ru} (hr : out[i]? = some r)
    (hle : s.frm ≤ r.til) : RunsOf (done ++ [s]) (out.set i { r with til := max r.til (endS s) }) := by
  obtain ⟨hil, ei⟩ := List.getElem?_eq_some_iff.1 hr
  have hru : r.sub = s.sub := by
    obtain ⟨⟨x, hx, hu⟩, -⟩ := hi
    rw [hr] at hx; cases hx; exact hu
  have hrf : r.frm ≤ s.frm := by
    obtain ⟨x, hx, e⟩ := h.from_ r (List.mem_of_getElem? hr)
    rw [← e]; exact hup x hx
  have hend : -9223372036854775808 ≤ endS s ∧ endS s ≤ 9223372036854775807 := by
    unfold endS
    split
    · omega
    · exact ⟨hok.til0, hok.til1⟩
  have hro := h.ok r (List.mem_of_getElem? hr)
  have hrl := h.full r (List.mem_of_getElem? hr)
  have hmem : ∀ x, x ∈ out.set i { r with til := max r.til (endS s) } → x ∈ out ∨ x = { r with til := max r.til (endS s) } := fun x hx => List.mem_or_eq_of_mem_set hx
  have hnew : { r with til := max r.til (endS s) } ∈ out.set i { r with til := max r.til (endS s) } := List.mem_set hil _
  refine ⟨?_, ?_, ?_, ?_, ?_, ?_⟩
  · intro x hx
    rcases hmem x hx with hx | rfl
    · exact h.ok x hx
    · exact ⟨hro.sub0, hro.sub1, hro.frm0, hro.frm1, by show _ ≤ max _ _; have := hro.til0; omega, by show max _ _ ≤ _; have := hro.til1; omega⟩
  · intro x hx
    rcases hmem x hx with hx | rfl
    · exact h.full x hx
    · show r.frm ≤ max _ _; omega
  · intro x hx
    rcases hmem x hx with hx | rfl
    · obtain ⟨y, hy, e⟩ := h.from_ x hx
      exact ⟨y, by simp [hy], e⟩
    · obtain ⟨y, hy, e⟩ := h.from_ r (List.mem_of_getElem? hr)
      exact ⟨y, by simp [hy], e⟩
  · rw [List.pairwise_iff_getElem]
    intro j k hj hk hjk
    rw [List.length_set] at hj hk
    have := List.pairwise_iff_getElem.1 h.up j k hj hk hjk
    rw [List.getElem_set, List.getElem_set]
    split <;> split <;> first | (subst_vars; exact this) | skip
    all_goals simp_all
  · rw [List.pairwise_iff_getElem]
    intro j k hj hk hjk
    rw [List.length_set] at hj hk
    have hd := List.pairwise_iff_getElem.1 h.disj j k hj hk hjk
    rw [List.getElem_set, List.getElem_set]
    by_cases e1 : i = j
    · rw [if_pos e1, if_neg (by omega)]
      subst e1
      intro e
      exfalso
      exact hi.2 k out[k] hjk (List.getElem?_eq_getElem hk) (by rw [← e]; exact hru)
    · rw [if_neg e1]
      by_cases e2 : i = k
      · rw [if_pos e2]
        subst e2
        rw [ei] at hd
        exact hd
      · rw [if_neg e2]
        exact hd
  · intro u t
    have hc := h.cov u t
    constructor
    · rintro ⟨x, hx, h1, h2, h3⟩
      rcases List.mem_append.1 hx with hx | hx
      · obtain ⟨y, hy, q1, q2, q3⟩ := hc.1 ⟨x, hx, h1, h2, h3⟩
        obtain ⟨j, hj⟩ := List.getElem?_of_mem hy
        by_cases e : i = j
        · subst e
          rw [hj] at hr
          cases hr
          exact ⟨_, hnew, q1, q2, by show t ≤ max _ _; omega⟩
        · exact ⟨y, List.mem_of_getElem? (i := j) (by rw [List.getElem?_set_ne e]; exact hj), q1, q2, q3⟩
      · simp at hx; subst hx
        exact ⟨_, hnew, by rw [← h1]; exact hru, by show r.frm ≤ t; omega, by show t ≤ max _ _; omega⟩
    · rintro ⟨x, hx, h1, h2, h3⟩
      rcases hmem x hx with hx | rfl
      · obtain ⟨y, hy, q⟩ := hc.2 ⟨x, hx, h1, h2, h3⟩
        exact ⟨y, by simp [hy], q⟩
      · have h3 : t ≤ max r.til (endS s) := h3
        by_cases ht : t ≤ r.til
        · obtain ⟨y, hy, q⟩ := hc.2 ⟨r, List.mem_of_getElem? hr, h1, h2, ht⟩
          exact ⟨y, by simp [hy], q⟩
        · exact ⟨s, by simp, by rw [← hru]; exact h1, by omega, by omega⟩

/-- A tree whose every root tells the greatest end of its branch, or more. -/
def Tops (F : Nat → Ru) (lo n : Nat) : Prop :=
  if n = 0 then True else (∀ j, lo ≤ j → j < lo + n → (F j).til ≤ (F (lo + n / 2)).lat) ∧ Tops F lo (n / 2) ∧ Tops F (lo + n / 2 + 1) (n - n / 2 - 1)
termination_by n

theorem tops_zero (F : Nat → Ru) (lo : Nat) : Tops F lo 0 := by rw [Tops, if_pos rfl]; trivial

theorem tops_iff (F : Nat → Ru) {lo n : Nat} (hn : n ≠ 0) : Tops F lo n ↔ (∀ j, lo ≤ j → j < lo + n → (F j).til ≤ (F (lo + n / 2)).lat) ∧ Tops F lo (n / 2) ∧ Tops F (lo + n / 2 + 1) (n - n / 2 - 1) := by
  rw [Tops, if_neg hn]

theorem tops_congr {F F' : Nat → Ru} : ∀ (n lo : Nat), (∀ j, lo ≤ j → j < lo + n → F' j = F j) → Tops F lo n → Tops F' lo n := by
  intro n
  induction n using Nat.strongRecOn with
  | _ n ih =>
    intro lo hF h
    by_cases hn : n = 0
    · subst hn; exact tops_zero _ _
    · rw [tops_iff F hn] at h
      rw [tops_iff F' hn]
      refine ⟨fun j h1 h2 => ?_, ih _ (by omega) _ (fun j h1 h2 => hF j h1 (by omega)) h.2.1, ih _ (by omega) _ (fun j h1 h2 => hF j (by omega) (by omega)) h.2.2⟩
      rw [hF j h1 h2, hF (lo + n / 2) (by omega) (by omega)]
      exact h.1 j h1 h2

/-- What a branch tells: its runs that are hit, in their order. -/
def hitsF (F : Nat → Ru) (t : Int) (lo n : Nat) : List Int := ((List.range' lo n).filter (fun j => ruHit (F j) t)).map (fun j => (F j).sub)

theorem hitsF_zero (F : Nat → Ru) (t : Int) (lo : Nat) : hitsF F t lo 0 = [] := rfl

theorem hitsF_split (F : Nat → Ru) (t : Int) (lo n : Nat) (hn : n ≠ 0) : hitsF F t lo n = hitsF F t lo (n / 2) ++ ((if ruHit (F (lo + n / 2)) t = true then [(F (lo + n / 2)).sub] else []) ++ hitsF F t (lo + n / 2 + 1) (n - n / 2 - 1)) := by
  have e : List.range' lo n = List.range' lo (n / 2) ++ (lo + n / 2) :: List.range' (lo + n / 2 + 1) (n - n / 2 - 1) := by
    have h1 : n = n / 2 + ((n - n / 2 - 1) + 1) := by omega
    conv => lhs; rw [h1]
    rw [← List.range'_append_1, List.range'_succ]
  unfold hitsF
  rw [e, List.filter_append, List.filter_cons, List.map_append]
  congr 1
  split
  · rfl
  · rfl

theorem hitsF_none (F : Nat → Ru) (t : Int) (lo n : Nat) (h : ∀ j, lo ≤ j → j < lo + n → ruHit (F j) t = false) : hitsF F t lo n = [] := by
  unfold hitsF
  rw [List.filter_eq_nil_iff.2, List.map_nil]
  intro j hj
  rw [List.mem_range'_1] at hj
  rw [h j hj.1 hj.2]
  decide

theorem hitsF_list (out : List Ru) (F : Nat → Ru) (t : Int) (hF : ∀ j r, out[j]? = some r → (F j).sub = r.sub ∧ (F j).frm = r.frm ∧ (F j).til = r.til) : hitsF F t 0 out.length = (out.filter (fun r => ruHit r t)).map Ru.sub := by
  have e : out = (List.range' 0 out.length).map (fun j => out.getD j default) := by
    apply List.ext_getElem
    · simp
    · intro i h1 h2
      simp [List.getD_eq_getElem?_getD, List.getElem?_eq_getElem h1]
  conv => rhs; rw [e]
  unfold hitsF
  rw [List.filter_map, List.map_map]
  have hq : ∀ j ∈ List.range' 0 out.length, (F j).sub = (out.getD j default).sub ∧ ruHit (F j) t = ruHit (out.getD j default) t := fun j hj => by
    rw [List.mem_range'_1] at hj
    have hj' : j < out.length := by omega
    obtain ⟨h1, h2, h3⟩ := hF j _ (List.getElem?_eq_getElem hj')
    rw [List.getD_eq_getElem?_getD, List.getElem?_eq_getElem hj']
    exact ⟨h1, by unfold ruHit; rw [h2, h3]; rfl⟩
  rw [List.filter_congr (fun j hj => (hq j hj).2)]
  apply List.map_congr_left
  intro j hj
  exact (hq j (List.mem_filter.1 hj).1).1

/-- The subscribers told: each once; and those who had the place. -/
theorem runs_told {row : List Sp} {out : List Ru} (h : RunsOf row out) (t : Int) : ((out.filter (fun r => ruHit r t)).map Ru.sub).Nodup ∧ ∀ u, u ∈ (out.filter (fun r => ruHit r t)).map Ru.sub ↔ ∃ s ∈ row, s.sub = u ∧ s.frm ≤ t ∧ t ≤ endS s := by
  refine ⟨?_, fun u => ?_⟩
  · rw [List.Nodup, List.pairwise_map]
    have := List.Pairwise.filter (fun r => ruHit r t) h.disj
    refine this.imp_of_mem ?_
    intro x y hx hy hd e
    have hx := ruHit_iff.1 (List.mem_filter.1 hx).2
    have hy := ruHit_iff.1 (List.mem_filter.1 hy).2
    have := hd e
    omega
  · rw [h.cov u t]
    simp only [List.mem_map, List.mem_filter, ruHit_iff]
    constructor
    · rintro ⟨r, ⟨hr, h1⟩, e⟩
      exact ⟨r, hr, e, h1⟩
    · rintro ⟨r, hr, e, h1⟩
      exact ⟨r, ⟨hr, h1⟩, e⟩

end Go.Proofs.Ytkkcpofaiocjpab
