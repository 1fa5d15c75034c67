/- What a crash leaves of a strand's sectors: plain mathematics. -/
import Derived.Test.YtafkkehcacdodaaGreatStrAwake
set_option maxRecDepth 100000
namespace Go.Proofs.YtafkkehcacdodaaGreat
open Go.RowKit

/-- A record that was tried: its sector, its body, whether its Append was OK, whether a Sync that was OK stood behind. -/
structure Tr : Type where
  pl : Nat
  b : List Int
  fi : Bool
  su : Bool

def flatB (R : List Tr) : List Int := R.flatMap fun x => frameB x.b
def cutC (F : List Int) (a : Nat) : List Int := F.take a ++ zeros (64 - a)
def Upto (f : Tr → Bool) (R : List Tr) (a : Nat) : Prop := ∀ i x, R[i]? = some x → f x = true → (flatB (R.take (i + 1))).length ≤ a

theorem cut_get (F : List Int) (a i : Nat) (ha : a ≤ F.length) (hi : i < 64) (h64 : F.length ≤ 64) : (cutC F a)[i]? = some (if i < a then F.getD i 0 else 0) := by
  have hl : (F.take a).length = a := by rw [List.length_take]; omega
  unfold cutC
  split
  · rename_i h
    rw [List.getElem?_append_left (by omega), List.getElem?_take, if_pos h, List.getD, List.getElem?_eq_getElem (by omega)]
    rfl
  · rename_i h
    rw [List.getElem?_append_right (by omega), hl, zeros, List.getElem?_replicate, if_pos (by omega)]

theorem cut_len (F : List Int) (a : Nat) (ha : a ≤ F.length) (h64 : F.length ≤ 64) : (cutC F a).length = 64 := by
  simp [cutC, zeros]; omega

theorem cut_torn (F : List Int) (a b x : Nat) (hab : a ≤ b) (hb : b ≤ F.length) (h64 : F.length ≤ 64) (hx : x ≤ 64) :
    (cutC F b).take x ++ (cutC F a).drop x = cutC F (if x ≤ b then max a x else b) := by
  have la := cut_len F a (by omega) h64
  have lb := cut_len F b hb h64
  have hm : (if x ≤ b then max a x else b) ≤ F.length := by split <;> omega
  have lm := cut_len F _ hm h64
  apply List.ext_getElem?
  intro i
  by_cases hi : i < 64
  · rw [cut_get F _ i hm hi h64]
    by_cases hix : i < x
    · rw [List.getElem?_append_left (by rw [List.length_take]; omega), List.getElem?_take, if_pos hix, cut_get F b i hb hi h64]
      congr 1
      by_cases hib : i < b
      · rw [if_pos hib, if_pos (by split <;> omega)]
      · rw [if_neg hib, if_neg (by split <;> omega)]
    · have hlt : ((cutC F b).take x).length = x := by rw [List.length_take]; omega
      rw [List.getElem?_append_right (by omega), hlt, List.getElem?_drop, show x + (i - x) = i by omega, cut_get F a i (by omega) hi h64]
      congr 1
      by_cases hia : i < a
      · rw [if_pos hia, if_pos (by split <;> omega)]
      · rw [if_neg hia, if_neg (by split <;> omega)]
  · rw [List.getElem?_eq_none (by rw [List.length_append, List.length_take, List.length_drop]; omega), List.getElem?_eq_none (by omega)]

theorem cut_more (F f : List Int) (a : Nat) (h : a ≤ F.length) : cutC (F ++ f) a = cutC F a := by
  unfold cutC
  rw [List.take_append_of_le_length h]

/-- Some of a sector's bytes laid anew. -/
theorem sec_over (l b : List Int) (k n : Nat) (hl : l.length = n * 64) (hb : b.length ≤ 64) (hk : k < n) : sec (splice l (k * 64) b) k = b ++ (sec l k).drop b.length := by
  unfold sec splice
  have h1 : (l.take (k * 64)).length = k * 64 := by rw [List.length_take]; omega
  rw [List.append_assoc, List.drop_append, h1, Nat.sub_self, List.drop_zero, List.drop_of_length_le (by omega), List.nil_append,
    List.take_append, List.take_of_length_le hb, List.drop_take, List.drop_drop]

theorem sec_other (l b : List Int) (j k n : Nat) (hl : l.length = n * 64) (hj : j < n) (hb : b.length ≤ 64) (hk : k ≠ j) : sec (splice l (j * 64) b) k = sec l k := by
  unfold sec splice
  apply List.ext_getElem?
  intro i
  rw [List.getElem?_take, List.getElem?_take]
  split
  · rename_i hi
    rw [List.getElem?_drop, List.getElem?_drop]
    have h1 : (l.take (j * 64)).length = j * 64 := by rw [List.length_take]; omega
    by_cases hlt : k < j
    · rw [List.append_assoc, List.getElem?_append_left (by rw [h1]; omega), List.getElem?_take, if_pos (by omega)]
    · rw [List.append_assoc, List.getElem?_append_right (by rw [h1]; omega), List.getElem?_append_right (by rw [h1]; omega), List.getElem?_drop, h1]
      congr 1
      omega
  · rfl

theorem flat_snoc (R : List Tr) (x : Tr) : flatB (R ++ [x]) = flatB R ++ frameB x.b := by simp [flatB]
theorem flat_cons (x : Tr) (R : List Tr) : flatB (x :: R) = frameB x.b ++ flatB R := by simp [flatB]

theorem Upto.le {f : Tr → Bool} {R : List Tr} {a a' : Nat} (h : Upto f R a) (ha : a ≤ a') : Upto f R a' := fun i x hi hx => Nat.le_trans (h i x hi hx) ha

theorem Upto.snoc {f : Tr → Bool} {R : List Tr} {a : Nat} (h : Upto f R a) (x : Tr) (hx : f x = true → (flatB (R ++ [x])).length ≤ a) : Upto f (R ++ [x]) a := by
  intro i y hi hy
  by_cases hlt : i < R.length
  · rw [List.getElem?_append_left hlt] at hi
    rw [List.take_append_of_le_length (by omega)]
    exact h i y hi hy
  · have hlt2 := (List.getElem?_eq_some_iff.1 hi).1
    rw [List.length_append, List.length_singleton] at hlt2
    have : i = R.length := by omega
    subst this
    rw [List.getElem?_append_right (Nat.le_refl _), Nat.sub_self] at hi
    simp only [List.getElem?_cons_zero, Option.some.injEq] at hi
    subst hi
    rw [List.take_of_length_le (by simp)]
    exact hx hy

theorem Upto.all {f : Tr → Bool} {R : List Tr} : Upto f R (flatB R).length := by
  intro i x _ _
  have : flatB R = flatB (R.take (i + 1)) ++ flatB (R.drop (i + 1)) := by
    unfold flatB; rw [← List.flatMap_append, List.take_append_drop]
  rw [this, List.length_append]
  omega

/-- What lies in a sector, certain and since. -/
structure SecI (s : St) (k : Nat) (R : List Tr) (c : Nat → Nat) : Prop where
  sr : sec s.sure k = cutC (flatB R) (c 0)
  nw : sec s.now k = cutC (flatB R) (c s.since.length)
  mono : ∀ i, i < s.since.length → c i ≤ c (i + 1)
  top : c s.since.length ≤ (flatB R).length
  wr : ∀ i, i < s.since.length → (s.since.getD i (0, [])).1 = k → (s.since.getD i (0, [])).2 = cutC (flatB R) (c (i + 1))
  skip : ∀ i, i < s.since.length → (s.since.getD i (0, [])).1 ≠ k → c (i + 1) = c i
  usu : Upto Tr.su R (c 0)
  ufi : Upto Tr.fi R (c s.since.length)
  f64 : (flatB R).length ≤ 64

theorem SecI.le {s : St} {k : Nat} {R : List Tr} {c : Nat → Nat} (h : SecI s k R c) : ∀ m i, i + m ≤ s.since.length → c i ≤ c (i + m) := by
  intro m
  induction m with
  | zero => intro i _; exact Nat.le_refl _
  | succ m ih => intro i hi; exact Nat.le_trans (ih i (by omega)) (h.mono (i + m) (by omega))

theorem SecI.tops {s : St} {k : Nat} {R : List Tr} {c : Nat → Nat} (h : SecI s k R c) (i : Nat) (hi : i ≤ s.since.length) : c i ≤ (flatB R).length := by
  have := h.le (s.since.length - i) i (by omega)
  rw [show i + (s.since.length - i) = s.since.length by omega] at this
  exact Nat.le_trans this h.top

/-- Behind a crash. -/
theorem SecI.torn {s : St} {k : Nat} {R : List Tr} {c : Nat → Nat} (h : SecI s k R c) (ho : s.Ok) (hk : k < s.n) (ch : List Int) : ∀ i, i ≤ s.since.length → ∃ a, sec (torn ch s.sure s.since i) k = cutC (flatB R) a ∧ c 0 ≤ a ∧ a ≤ c i := by
  intro i
  induction i with
  | zero => intro _; exact ⟨c 0, h.sr, Nat.le_refl _, Nat.le_refl _⟩
  | succ i ih =>
    intro hi
    obtain ⟨a, h1, h2, h3⟩ := ih (by omega)
    obtain ⟨w1, w2, _⟩ := wr_at ho i (by omega)
    have hx := leftN_le ch i
    have hln := (torn_len ho ch i (by omega)).1
    have hm := h.mono i (by omega)
    have ht := h.tops (i + 1) hi
    show ∃ a, sec (splice (Go.Proofs.YtafkkehcacdodaaGreat.torn ch s.sure s.since i) _ _) k = _ ∧ _
    by_cases e : (s.since.getD i (0, [])).1 = k
    · have hw := h.wr i (by omega) e
      rw [e, sec_over _ _ k s.n hln (by rw [List.length_take]; omega) hk, h1, hw]
      have hlt : ((cutC (flatB R) (c (i + 1))).take (leftN ch i)).length = leftN ch i := by rw [List.length_take, cut_len _ _ ht h.f64]; omega
      rw [hlt, cut_torn _ a _ _ (by omega) ht h.f64 hx]
      refine ⟨_, rfl, ?_, ?_⟩
      · split <;> omega
      · split <;> omega
    · rw [sec_other _ _ _ k s.n hln w1 (by rw [List.length_take]; omega) (fun e' => e e'.symm)]
      exact ⟨a, h1, h2, by have := h.skip i (by omega) e; omega⟩

/-- Are records some of those that were tried, in order, all that are sure among them? -/
inductive Btw : List (List Int) → List Tr → Prop
  | nil : Btw [] []
  | skip {h : List (List Int)} {R : List Tr} (x : Tr) : x.su = false → Btw h R → Btw h (x :: R)
  | take {h : List (List Int)} {R : List Tr} (x : Tr) : Btw h R → Btw (x.b :: h) (x :: R)

theorem Btw.append {h h' : List (List Int)} {R R' : List Tr} (a : Btw h R) (b : Btw h' R') : Btw (h ++ h') (R ++ R') := by
  induction a with
  | nil => exact b
  | skip x hx _ ih => exact .skip x hx ih
  | take x _ ih => exact .take x ih

theorem Btw.none {R : List Tr} (h : ∀ x ∈ R, x.su = false) : Btw [] R := by
  induction R with
  | nil => exact .nil
  | cons x R ih => exact .skip x (h x (by simp)) (ih (fun y hy => h y (by simp [hy])))

theorem zeros_get (m i : Nat) : (zeros m).getD i 0 = 0 := by
  simp only [zeros, List.getD, List.getElem?_replicate]
  split <;> rfl

/-- A frame whose end is not there is none. -/
theorem torn_frame (b : List Int) (a m : Nat) (ha : a < b.length + 7) : okB ((frameB b).take a ++ zeros m) = false := by
  have hfl := frameB_len b
  have hl : ((frameB b).take a).length = a := by rw [List.length_take]; omega
  by_cases h0 : a = 0
  · subst h0
    rw [List.take_zero, List.nil_append]
    unfold okB
    rw [decide_eq_false_iff_not]
    rintro ⟨_, e, _⟩
    rw [zeros_get] at e
    cases e
  · by_cases h1' : a = 1
    · subst h1'
      unfold okB
      rw [decide_eq_false_iff_not]
      rintro ⟨_, _, e, _⟩
      rw [getD_app_right _ _ _ (by omega), zeros_get] at e
      omega
    · unfold okB
      rw [decide_eq_false_iff_not]
      rintro ⟨_, _, _, _, _, e, _⟩
      have e1 : ((frameB b).take a ++ zeros m).getD 1 0 = b.length := by
        rw [getD_app_left _ _ _ (by omega), List.getD, List.getElem?_take, if_pos (by omega)]
        rfl
      rw [e1, Int.toNat_natCast, getD_app_right _ _ _ (by omega), zeros_get] at e
      cases e

theorem scan_cut (R : List Tr) : ∀ (a m : Nat), (∀ x ∈ R, isBytes x.b ∧ 1 ≤ x.b.length ∧ x.b.length ≤ 56) → a ≤ (flatB R).length → Upto Tr.su R a → Btw (scanB ((flatB R).take a ++ zeros m)) R := by
  induction R with
  | nil =>
    intro a m _ ha _
    have : a = 0 := by simpa [flatB] using ha
    subst this
    rw [List.take_zero, List.nil_append, scanB_no]
    · exact .nil
    · have := torn_frame [0] 0 m (by decide)
      rwa [List.take_zero, List.nil_append] at this
  | cons x R ih =>
    intro a m hb ha hu
    obtain ⟨x1, x2, x3⟩ := hb x (by simp)
    have hfl := frameB_len x.b
    rw [flat_cons] at ha ⊢
    rw [List.length_append] at ha
    by_cases hx : (frameB x.b).length ≤ a
    · rw [List.take_append, List.take_of_length_le hx, List.append_assoc, scan_frame _ _ x1 x2 x3]
      refine .take x (ih _ m (fun y hy => hb y (by simp [hy])) (by omega) ?_)
      intro i y hi hy
      have := hu (i + 1) y (by simpa using hi) hy
      rw [List.take_succ_cons, flat_cons, List.length_append] at this
      omega
    · rw [List.take_append_of_le_length (by omega), scanB_no (torn_frame _ _ m (by omega))]
      refine Btw.none (fun y hy => ?_)
      by_cases hs : y.su = true
      · obtain ⟨i, hi⟩ := List.getElem?_of_mem hy
        have := hu i y hi hs
        rw [List.take_succ_cons, flat_cons, List.length_append] at this
        omega
      · simpa using hs

end Go.Proofs.YtafkkehcacdodaaGreat
