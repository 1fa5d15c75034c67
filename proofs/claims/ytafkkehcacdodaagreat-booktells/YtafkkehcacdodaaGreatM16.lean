/- Two disks beside one another; Append at whatever bytes; awake. -/
import Derived.Test.YtafkkehcacdodaaGreatM12
import Derived.Test.YtafkkehcacdodaaGreatM10
import Derived.Test.YtafkkehcacdodaaGreatSecRef7
import Derived.Lib.SmallJoins
import Derived.Laws.IdiomStrings
import Derived.Test.YtafkkehcacdodaaGreatM2
set_option maxRecDepth 100000
namespace Go.Proofs.YtafkkehcacdodaaGreat
open Go.RowKit

theorem append_any8 (w : World) (tag : Nat → Nat) (base o o' : Nat) (ho : o ≠ o') (ho1 : 1 ≤ o) (ho2 : 1 ≤ o') (s : St) (p : PL) (h : PD w tag base o s p) (t : Sd) (q : SL) (D S : Nat) (hD : p.D = D) (hS : q.S = S) (hq : PO w tag base o' D t q) (hbase : base ≤ w.heap.size) (ht : t.Ok s.n) (v : Value) (b : List Int) (hv : Bts w v b) (hvh : b ≠ [] → Held w tag v b)
    (hops : s.ops ≤ 1000000) (hout : s.outs.length ≤ 1000000) (hsin : s.since.length ≤ 1000000) (hrec : t.recs.length ≤ 900000) :
    Calls Tryz.prog 89 #[.pointer (some ⟨S, 0, none⟩), v] w fun e w' => e = .returned (.int .i64 (appE s t b)) ∧ AppPost w tag base o o' s D t S b w' := by
  subst hD; subst hS
  by_cases hE : frameE b = 0
  · exact append_ok8 w tag base o o' ho ho1 ho2 s p h t q hq hbase ht v b (hvh (fun e => by rw [e] at hE; cases hE)) hE hops hout hsin hrec
  · exact append_no w tag base o o' s p h t q hq v b hv hE

theorem sec_zeros (n k : Nat) (h : k < n) : sec (zeros (n * 64)) k = zeros 64 := by
  unfold sec zeros
  rw [List.drop_replicate, List.take_replicate]
  congr 1
  omega

theorem openK_new (n : Nat) : ∀ k, k ≤ n → openK (zeros (n * 64)) k = ⟨0, 0, []⟩ := by
  intro k
  induction k with
  | zero => intro _; rfl
  | succ k ih =>
    intro hk
    rw [openK_step, ih (by omega), sec_zeros n k (by omega)]
    rfl

theorem openT_new (n : Nat) : openT (St.new n) = ⟨0, 0, []⟩ := openK_new n n (Nat.le_refl _)

theorem app_a : appE (St.new 2) ⟨0, 0, []⟩ [97] = 0 ∧ appT (St.new 2) ⟨0, 0, []⟩ [97] = ⟨0, 8, [(0, [97])]⟩ := ⟨rfl, rfl⟩

theorem conv8 (w : World) (C : Array Value) (n c g : Nat) (hg : g = w.heap.size) :
    (convert 39 39 (.slice (some ⟨g, 0, none⟩) n c)).run Tryz.prog (w.alloc (.cells C 5)) = .ok (.slice (some ⟨g, 0, none⟩) n c) (w.alloc (.cells C 5 (C.size, C.size + 1))) :=
  Go.Joins.run_convert_bytes_const_at w 39 5 C n c g hg Tryz.underlying39 Tryz.underlying5

theorem held_lit (w : World) (tag : Nat → Nat) (l : List Int) (hb : isBytes l) (hl : l.length ≤ maxLen) (m : Nat × Nat) : Held (w.alloc (.cells (bytesV l).toArray 5 m)) (clip tag w.heap.size) (.slice (some ⟨w.heap.size, 0, none⟩) l.length l.length) l := by
  refine ⟨⟨_, _, w.heap.size, 0, rfl, Nat.le_refl _, hl, hb, .inl rfl, fun i hi => ?_⟩, fun g hg => ?_⟩
  · rw [Nat.zero_add]
    unfold World.cell?
    rw [World.alloc_heap_new]
    simp [List.getElem?_eq_getElem hi]
  · simp [Value.ownBlock] at hg
    subst hg
    exact ⟨by simp [clip], by simp⟩

/-- A row of slices, read. -/
theorem Lst.read {w : World} {base : Nat} {v : Value} {vs : List Value} {ls : List (List Int)} (h : Lst w base v vs ls) (hne : 0 < ls.length) : ∃ B O c, v = .slice (some ⟨B, O, none⟩) ls.length c ∧ ls.length ≤ c ∧ c ≤ maxLen ∧ ∀ i, i < ls.length → w.cell? ⟨B, O + i, none⟩ = some (vs.getD i undef) := by
  rcases h.win.2 with ⟨_, h0⟩ | ⟨B, O, c, cs, e, hb, h2, h3, h4, h5⟩
  · omega
  refine ⟨B, O, c, e, h2, h3, fun i hi => ?_⟩
  have hvl : vs.length = ls.length := by have := h.win.1; omega
  exact hb.range O (ls.length * 1) i (vs.getD i undef) (by rw [h5]; simp [List.getD, List.getElem?_eq_getElem (show i < vs.length by omega)])

end Go.Proofs.YtafkkehcacdodaaGreat

namespace Go.Proofs.YtafkkehcacdodaaGreat
open Go.RowKit

/-- A record that was tried: its sector, its body, whether its Append was OK, whether a Sync that was OK stood behind. -/
structure Tr : Type where
  pl : Nat
  b : List Int
  fi : Bool
  su : Bool

def flatB (R : List Tr) : List Int := R.flatMap fun x => frameB x.b
def cutC (F : List Int) (a : Nat) : List Int := F.take a ++ zeros (64 - a)
def Upto (f : Tr → Bool) (R : List Tr) (a : Nat) : Prop := ∀ i x, R[i]? = some x → f x = true → (flatB (R.take (i + 1))).length ≤ a

theorem cut_get (F : List Int) (a i : Nat) (ha : a ≤ F.length) (hi : i < 64) (h64 : F.length ≤ 64) : (cutC F a)[i]? = some (if i < a then F.getD i 0 else 0) := by
  have hl : (F.take a).length = a := by rw [List.length_take]; omega
  unfold cutC
  split
  · rename_i h
    rw [List.getElem?_append_left (by omega), List.getElem?_take, if_pos h, List.getD, List.getElem?_eq_getElem (by omega)]
    rfl
  · rename_i h
    rw [List.getElem?_append_right (by omega), hl, zeros, List.getElem?_replicate, if_pos (by omega)]

theorem cut_len (F : List Int) (a : Nat) (ha : a ≤ F.length) (h64 : F.length ≤ 64) : (cutC F a).length = 64 := by
  simp [cutC, zeros]; omega

theorem cut_torn (F : List Int) (a b x : Nat) (hab : a ≤ b) (hb : b ≤ F.length) (h64 : F.length ≤ 64) (hx : x ≤ 64) :
    (cutC F b).take x ++ (cutC F a).drop x = cutC F (if x ≤ b then max a x else b) := by
  have la := cut_len F a (by omega) h64
  have lb := cut_len F b hb h64
  have hm : (if x ≤ b then max a x else b) ≤ F.length := by split <;> omega
  have lm := cut_len F _ hm h64
  apply List.ext_getElem?
  intro i
  by_cases hi : i < 64
  · rw [cut_get F _ i hm hi h64]
    by_cases hix : i < x
    · rw [List.getElem?_append_left (by rw [List.length_take]; omega), List.getElem?_take, if_pos hix, cut_get F b i hb hi h64]
      congr 1
      by_cases hib : i < b
      · rw [if_pos hib, if_pos (by split <;> omega)]
      · rw [if_neg hib, if_neg (by split <;> omega)]
    · have hlt : ((cutC F b).take x).length = x := by rw [List.length_take]; omega
      rw [List.getElem?_append_right (by omega), hlt, List.getElem?_drop, show x + (i - x) = i by omega, cut_get F a i (by omega) hi h64]
      congr 1
      by_cases hia : i < a
      · rw [if_pos hia, if_pos (by split <;> omega)]
      · rw [if_neg hia, if_neg (by split <;> omega)]
  · rw [List.getElem?_eq_none (by rw [List.length_append, List.length_take, List.length_drop]; omega), List.getElem?_eq_none (by omega)]

theorem cut_more (F f : List Int) (a : Nat) (h : a ≤ F.length) : cutC (F ++ f) a = cutC F a := by
  unfold cutC
  rw [List.take_append_of_le_length h]

/-- Some of a sector's bytes laid anew. -/
theorem sec_over (l b : List Int) (k n : Nat) (hl : l.length = n * 64) (hb : b.length ≤ 64) (hk : k < n) : sec (splice l (k * 64) b) k = b ++ (sec l k).drop b.length := by
  unfold sec splice
  have h1 : (l.take (k * 64)).length = k * 64 := by rw [List.length_take]; omega
  rw [List.append_assoc, List.drop_append, h1, Nat.sub_self, List.drop_zero, List.drop_of_length_le (by omega), List.nil_append,
    List.take_append, List.take_of_length_le hb, List.drop_take, List.drop_drop]

theorem sec_other (l b : List Int) (j k n : Nat) (hl : l.length = n * 64) (hj : j < n) (hb : b.length ≤ 64) (hk : k ≠ j) : sec (splice l (j * 64) b) k = sec l k := by
  unfold sec splice
  apply List.ext_getElem?
  intro i
  rw [List.getElem?_take, List.getElem?_take]
  split
  · rename_i hi
    rw [List.getElem?_drop, List.getElem?_drop]
    have h1 : (l.take (j * 64)).length = j * 64 := by rw [List.length_take]; omega
    by_cases hlt : k < j
    · rw [List.append_assoc, List.getElem?_append_left (by rw [h1]; omega), List.getElem?_take, if_pos (by omega)]
    · rw [List.append_assoc, List.getElem?_append_right (by rw [h1]; omega), List.getElem?_append_right (by rw [h1]; omega), List.getElem?_drop, h1]
      congr 1
      omega
  · rfl

theorem flat_snoc (R : List Tr) (x : Tr) : flatB (R ++ [x]) = flatB R ++ frameB x.b := by simp [flatB]
theorem flat_cons (x : Tr) (R : List Tr) : flatB (x :: R) = frameB x.b ++ flatB R := by simp [flatB]

theorem Upto.le {f : Tr → Bool} {R : List Tr} {a a' : Nat} (h : Upto f R a) (ha : a ≤ a') : Upto f R a' := fun i x hi hx => Nat.le_trans (h i x hi hx) ha

theorem Upto.snoc {f : Tr → Bool} {R : List Tr} {a : Nat} (h : Upto f R a) (x : Tr) (hx : f x = true → (flatB (R ++ [x])).length ≤ a) : Upto f (R ++ [x]) a := by
  intro i y hi hy
  by_cases hlt : i < R.length
  · rw [List.getElem?_append_left hlt] at hi
    rw [List.take_append_of_le_length (by omega)]
    exact h i y hi hy
  · have hlt2 := (List.getElem?_eq_some_iff.1 hi).1
    rw [List.length_append, List.length_singleton] at hlt2
    have : i = R.length := by omega
    subst this
    rw [List.getElem?_append_right (Nat.le_refl _), Nat.sub_self] at hi
    simp only [List.getElem?_cons_zero, Option.some.injEq] at hi
    subst hi
    rw [List.take_of_length_le (by simp)]
    exact hx hy

theorem Upto.all {f : Tr → Bool} {R : List Tr} : Upto f R (flatB R).length := by
  intro i x _ _
  have : flatB R = flatB (R.take (i + 1)) ++ flatB (R.drop (i + 1)) := by
    unfold flatB; rw [← List.flatMap_append, List.take_append_drop]
  rw [this, List.length_append]
  omega

/-- What lies in a sector, certain and since. -/
structure SecI (s : St) (k : Nat) (R : List Tr) (c : Nat → Nat) : Prop where
  sr : sec s.sure k = cutC (flatB R) (c 0)
  nw : sec s.now k = cutC (flatB R) (c s.since.length)
  mono : ∀ i, i < s.since.length → c i ≤ c (i + 1)
  top : c s.since.length ≤ (flatB R).length
  wr : ∀ i, i < s.since.length → (s.since.getD i (0, [])).1 = k → (s.since.getD i (0, [])).2 = cutC (flatB R) (c (i + 1))
  skip : ∀ i, i < s.since.length → (s.since.getD i (0, [])).1 ≠ k → c (i + 1) = c i
  usu : Upto Tr.su R (c 0)
  ufi : Upto Tr.fi R (c s.since.length)
  f64 : (flatB R).length ≤ 64

theorem SecI.le {s : St} {k : Nat} {R : List Tr} {c : Nat → Nat} (h : SecI s k R c) : ∀ m i, i + m ≤ s.since.length → c i ≤ c (i + m) := by
  intro m
  induction m with
  | zero => intro i _; exact Nat.le_refl _
  | succ m ih => intro i hi; exact Nat.le_trans (ih i (by omega)) (h.mono (i + m) (by omega))

theorem SecI.tops {s : St} {k : Nat} {R : List Tr} {c : Nat → Nat} (h : SecI s k R c) (i : Nat) (hi : i ≤ s.since.length) : c i ≤ (flatB R).length := by
  have := h.le (s.since.length - i) i (by omega)
  rw [show i + (s.since.length - i) = s.since.length by omega] at this
  exact Nat.le_trans this h.top

/-- Behind a crash. -/
theorem SecI.torn {s : St} {k : Nat} {R : List Tr} {c : Nat → Nat} (h : SecI s k R c) (ho : s.Ok) (hk : k < s.n) (ch : List Int) : ∀ i, i ≤ s.since.length → ∃ a, sec (torn ch s.sure s.since i) k = cutC (flatB R) a ∧ c 0 ≤ a ∧ a ≤ c i := by
  intro i
  induction i with
  | zero => intro _; exact ⟨c 0, h.sr, Nat.le_refl _, Nat.le_refl _⟩
  | succ i ih =>
    intro hi
    obtain ⟨a, h1, h2, h3⟩ := ih (by omega)
    obtain ⟨w1, w2, _⟩ := wr_at ho i (by omega)
    have hx := leftN_le ch i
    have hln := (torn_len ho ch i (by omega)).1
    have hm := h.mono i (by omega)
    have ht := h.tops (i + 1) hi
    show ∃ a, sec (splice (Go.Proofs.YtafkkehcacdodaaGreat.torn ch s.sure s.since i) _ _) k = _ ∧ _
    by_cases e : (s.since.getD i (0, [])).1 = k
    · have hw := h.wr i (by omega) e
      rw [e, sec_over _ _ k s.n hln (by rw [List.length_take]; omega) hk, h1, hw]
      have hlt : ((cutC (flatB R) (c (i + 1))).take (leftN ch i)).length = leftN ch i := by rw [List.length_take, cut_len _ _ ht h.f64]; omega
      rw [hlt, cut_torn _ a _ _ (by omega) ht h.f64 hx]
      refine ⟨_, rfl, ?_, ?_⟩
      · split <;> omega
      · split <;> omega
    · rw [sec_other _ _ _ k s.n hln w1 (by rw [List.length_take]; omega) (fun e' => e e'.symm)]
      exact ⟨a, h1, h2, by have := h.skip i (by omega) e; omega⟩

/-- Are records some of those that were tried, in order, all that are sure among them? -/
inductive Btw : List (List Int) → List Tr → Prop
  | nil : Btw [] []
  | skip {h : List (List Int)} {R : List Tr} (x : Tr) : x.su = false → Btw h R → Btw h (x :: R)
  | take {h : List (List Int)} {R : List Tr} (x : Tr) : Btw h R → Btw (x.b :: h) (x :: R)

theorem Btw.append {h h' : List (List Int)} {R R' : List Tr} (a : Btw h R) (b : Btw h' R') : Btw (h ++ h') (R ++ R') := by
  induction a with
  | nil => exact b
  | skip x hx _ ih => exact .skip x hx ih
  | take x _ ih => exact .take x ih

theorem Btw.none {R : List Tr} (h : ∀ x ∈ R, x.su = false) : Btw [] R := by
  induction R with
  | nil => exact .nil
  | cons x R ih => exact .skip x (h x (by simp)) (ih (fun y hy => h y (by simp [hy])))

theorem zeros_get (m i : Nat) : (zeros m).getD i 0 = 0 := by
  simp only [zeros, List.getD, List.getElem?_replicate]
  split <;> rfl

/-- A frame whose end is not there is none. -/
theorem torn_frame (b : List Int) (a m : Nat) (ha : a < b.length + 7) : okB ((frameB b).take a ++ zeros m) = false := by
  have hfl := frameB_len b
  have hl : ((frameB b).take a).length = a := by rw [List.length_take]; omega
  by_cases h0 : a = 0
  · subst h0
    rw [List.take_zero, List.nil_append]
    unfold okB
    rw [decide_eq_false_iff_not]
    rintro ⟨_, e, _⟩
    rw [zeros_get] at e
    cases e
  · by_cases h1' : a = 1
    · subst h1'
      unfold okB
      rw [decide_eq_false_iff_not]
      rintro ⟨_, _, e, _⟩
      rw [getD_app_right _ _ _ (by omega), zeros_get] at e
      omega
    · unfold okB
      rw [decide_eq_false_iff_not]
      rintro ⟨_, _, _, _, _, e, _⟩
      have e1 : ((frameB b).take a ++ zeros m).getD 1 0 = b.length := by
        rw [getD_app_left _ _ _ (by omega), List.getD, List.getElem?_take, if_pos (by omega)]
        rfl
      rw [e1, Int.toNat_natCast, getD_app_right _ _ _ (by omega), zeros_get] at e
      cases e

theorem scan_cut (R : List Tr) : ∀ (a m : Nat), (∀ x ∈ R, isBytes x.b ∧ 1 ≤ x.b.length ∧ x.b.length ≤ 56) → a ≤ (flatB R).length → Upto Tr.su R a → Btw (scanB ((flatB R).take a ++ zeros m)) R := by
  induction R with
  | nil =>
    intro a m _ ha _
    have : a = 0 := by simpa [flatB] using ha
    subst this
    rw [List.take_zero, List.nil_append, scanB_no]
    · exact .nil
    · have := torn_frame [0] 0 m (by decide)
      rwa [List.take_zero, List.nil_append] at this
  | cons x R ih =>
    intro a m hb ha hu
    obtain ⟨x1, x2, x3⟩ := hb x (by simp)
    have hfl := frameB_len x.b
    rw [flat_cons] at ha ⊢
    rw [List.length_append] at ha
    by_cases hx : (frameB x.b).length ≤ a
    · rw [List.take_append, List.take_of_length_le hx, List.append_assoc, scan_frame _ _ x1 x2 x3]
      refine .take x (ih _ m (fun y hy => hb y (by simp [hy])) (by omega) ?_)
      intro i y hi hy
      have := hu (i + 1) y (by simpa using hi) hy
      rw [List.take_succ_cons, flat_cons, List.length_append] at this
      omega
    · rw [List.take_append_of_le_length (by omega), scanB_no (torn_frame _ _ m (by omega))]
      refine Btw.none (fun y hy => ?_)
      by_cases hs : y.su = true
      · obtain ⟨i, hi⟩ := List.getElem?_of_mem hy
        have := hu i y hi hs
        rw [List.take_succ_cons, flat_cons, List.length_append] at this
        omega
      · simpa using hs

end Go.Proofs.YtafkkehcacdodaaGreat

namespace Go.Proofs.YtafkkehcacdodaaGreat
open Go.RowKit

section
variable {s : St} {k : Nat} {R : List Tr} {c : Nat → Nat}

/-- A record that was not written. -/
theorem SecI.grow (h : SecI s k R c) (x : Tr) (hf : x.fi = false) (hs : x.su = false) (h64 : (flatB (R ++ [x])).length ≤ 64) : SecI s k (R ++ [x]) c := by
  have hc : ∀ i, i ≤ s.since.length → cutC (flatB (R ++ [x])) (c i) = cutC (flatB R) (c i) := fun i hi => by rw [flat_snoc]; exact cut_more _ _ _ (h.tops i hi)
  refine ⟨?_, ?_, h.mono, ?_, ?_, h.skip, h.usu.snoc x (fun e => by rw [hs] at e; cases e), h.ufi.snoc x (fun e => by rw [hf] at e; cases e), h64⟩
  · rw [hc 0 (Nat.zero_le _)]; exact h.sr
  · rw [hc _ (Nat.le_refl _)]; exact h.nw
  · rw [flat_snoc, List.length_append]; have := h.top; omega
  · intro i hi e; rw [hc (i + 1) hi]; exact h.wr i hi e

theorem since_lt (ws : List (Nat × List Int)) (y : Nat × List Int) (i : Nat) (h : i < ws.length) : (ws ++ [y]).getD i (0, []) = ws.getD i (0, []) := by
  simp only [List.getD, List.getElem?_append_left h]
theorem since_eq (ws : List (Nat × List Int)) (y : Nat × List Int) : (ws ++ [y]).getD ws.length (0, []) = y := by simp [List.getD]

/-- A record that was written. -/
theorem SecI.put (h : SecI s k R c) (ho : s.Ok) (hk : k < s.n) (x : Tr) (hs : x.su = false) (h64 : (flatB (R ++ [x])).length ≤ 64) :
    ∃ c', SecI (s.wrote k (cutC (flatB (R ++ [x])) (flatB (R ++ [x])).length)) k (R ++ [x]) c' ∧ c' (s.since.length + 1) = (flatB (R ++ [x])).length := by
  have hc : ∀ i, i ≤ s.since.length → cutC (flatB (R ++ [x])) (c i) = cutC (flatB R) (c i) := fun i hi => by rw [flat_snoc]; exact cut_more _ _ _ (h.tops i hi)
  have hle : (flatB R).length ≤ (flatB (R ++ [x])).length := by rw [flat_snoc, List.length_append]; omega
  have hw := cut_len (flatB (R ++ [x])) _ (Nat.le_refl _) h64
  generalize hF : flatB (R ++ [x]) = F at *
  have hsl : (s.wrote k (cutC F F.length)).since = s.since ++ [(k, cutC F F.length)] := rfl
  obtain ⟨c', hc1, hc2⟩ : ∃ c' : Nat → Nat, (∀ i, i ≤ s.since.length → c' i = c i) ∧ c' (s.since.length + 1) = F.length := ⟨fun i => if i ≤ s.since.length then c i else F.length, fun i hi => by simp [hi], if_neg (by omega)⟩
  refine ⟨c', ⟨?_, ?_, ?_, ?_, ?_, ?_, ?_, ?_, by rw [hF]; exact h64⟩, hc2⟩
  · rw [hc1 0 (Nat.zero_le _), hF, hc 0 (Nat.zero_le _)]; exact h.sr
  · rw [hsl, List.length_append, List.length_singleton, hc2, hF]
    exact sec_splice _ _ k s.n ho.nl hw hk
  · intro i hi
    rw [hsl, List.length_append, List.length_singleton] at hi
    rw [hc1 i (by omega)]
    by_cases e : i < s.since.length
    · rw [hc1 (i + 1) (by omega)]; exact h.mono i e
    · have : i = s.since.length := by omega
      subst this
      rw [hc2]
      exact Nat.le_trans h.top hle
  · rw [hsl, List.length_append, List.length_singleton, hc2, hF]; exact Nat.le_refl _
  · intro i hi e
    rw [hsl, List.length_append, List.length_singleton] at hi
    rw [hsl] at e ⊢
    by_cases hlt : i < s.since.length
    · rw [since_lt _ _ _ hlt] at e ⊢
      rw [hc1 (i + 1) (by omega), hF, hc (i + 1) (by omega)]
      exact h.wr i hlt e
    · have : i = s.since.length := by omega
      subst this
      rw [since_eq, hc2, hF]
  · intro i hi e
    rw [hsl, List.length_append, List.length_singleton] at hi
    rw [hsl] at e
    by_cases hlt : i < s.since.length
    · rw [since_lt _ _ _ hlt] at e
      rw [hc1 (i + 1) (by omega), hc1 i (by omega)]
      exact h.skip i hlt e
    · have : i = s.since.length := by omega
      subst this
      rw [since_eq] at e
      exact absurd rfl e
  · rw [hc1 0 (Nat.zero_le _)]; exact h.usu.snoc x (fun e => by rw [hs] at e; cases e)
  · rw [hsl, List.length_append, List.length_singleton, hc2, ← hF]; exact Upto.all

/-- Another sector is written. -/
theorem SecI.aside (h : SecI s k R c) (ho : s.Ok) (j : Nat) (hj : j < s.n) (hne : k ≠ j) (l : List Int) (hl : l.length = 64) :
    ∃ c', SecI (s.wrote j l) k R c' := by
  have hsl : (s.wrote j l).since = s.since ++ [(j, l)] := rfl
  obtain ⟨c', hc1, hc2⟩ : ∃ c' : Nat → Nat, (∀ i, i ≤ s.since.length → c' i = c i) ∧ c' (s.since.length + 1) = c s.since.length := ⟨fun i => if i ≤ s.since.length then c i else c s.since.length, fun i hi => by simp [hi], if_neg (by omega)⟩
  refine ⟨c', ⟨?_, ?_, ?_, ?_, ?_, ?_, ?_, ?_, h.f64⟩⟩
  · rw [hc1 0 (Nat.zero_le _)]; exact h.sr
  · rw [hsl, List.length_append, List.length_singleton, hc2, ← h.nw]
    exact sec_other _ _ j k s.n ho.nl hj (by omega) hne
  · intro i hi
    rw [hsl, List.length_append, List.length_singleton] at hi
    rw [hc1 i (by omega)]
    by_cases e : i < s.since.length
    · rw [hc1 (i + 1) (by omega)]; exact h.mono i e
    · have : i = s.since.length := by omega
      subst this
      rw [hc2]; exact Nat.le_refl _
  · rw [hsl, List.length_append, List.length_singleton, hc2]; exact h.top
  · intro i hi e
    rw [hsl, List.length_append, List.length_singleton] at hi
    rw [hsl] at e ⊢
    by_cases hlt : i < s.since.length
    · rw [since_lt _ _ _ hlt] at e ⊢
      rw [hc1 (i + 1) (by omega)]
      exact h.wr i hlt e
    · have : i = s.since.length := by omega
      subst this
      rw [since_eq] at e
      exact absurd e.symm hne
  · intro i hi e
    rw [hsl, List.length_append, List.length_singleton] at hi
    rw [hsl] at e
    by_cases hlt : i < s.since.length
    · rw [since_lt _ _ _ hlt] at e
      rw [hc1 (i + 1) (by omega), hc1 i (by omega)]
      exact h.skip i hlt e
    · have : i = s.since.length := by omega
      subst this
      rw [hc2, hc1 _ (Nat.le_refl _)]
  · rw [hc1 0 (Nat.zero_le _)]; exact h.usu
  · rw [hsl, List.length_append, List.length_singleton, hc2]; exact h.ufi

theorem SecI.take (h : SecI s k R c) : SecI s.take k R c := ⟨h.sr, h.nw, h.mono, h.top, h.wr, h.skip, h.usu, h.ufi, h.f64⟩

theorem SecI.settled (h : SecI s k R c) : SecI s.settled k R (fun _ => c s.since.length) := by
  have h0 := h.le s.since.length 0 (by omega)
  rw [Nat.zero_add] at h0
  exact ⟨h.nw, h.nw, fun i hi => Nat.le_refl _, h.top, fun i hi => by simp [St.settled] at hi, fun i hi _ => rfl, h.usu.le h0, h.ufi, h.f64⟩

end

def Tr.sured (x : Tr) : Tr := ⟨x.pl, x.b, x.fi, x.fi⟩

theorem flat_sured (R : List Tr) : flatB (R.map Tr.sured) = flatB R := by
  unfold flatB; rw [List.flatMap_map]; rfl

theorem SecI.surely {s : St} {k : Nat} {R : List Tr} {c : Nat → Nat} (h : SecI s.settled k R c) : SecI s.settled k (R.map Tr.sured) c := by
  have hu : ∀ (f : Tr → Bool) (a : Nat), Upto (fun x => f x.sured) R a → Upto f (R.map Tr.sured) a := by
    intro f a hu i y hi hy
    rw [List.getElem?_map] at hi
    cases hr : R[i]? with
    | none => rw [hr] at hi; cases hi
    | some x =>
      rw [hr] at hi
      simp only [Option.map_some, Option.some.injEq] at hi
      subst hi
      rw [← List.map_take, flat_sured]
      exact hu i x hr hy
  refine ⟨by rw [flat_sured]; exact h.sr, by rw [flat_sured]; exact h.nw, h.mono, by rw [flat_sured]; exact h.top, by rw [flat_sured]; exact h.wr, h.skip, hu _ _ h.ufi, hu _ _ h.ufi, by rw [flat_sured]; exact h.f64⟩

def inSec (G : List Tr) (k : Nat) : List Tr := G.filter fun x => x.pl == k

/-- What holds of a strand on its disk. -/
structure Sv (s : St) (t : Sd) (G : List Tr) : Prop where
  srt : G.Pairwise (fun x y => x.pl ≤ y.pl)
  plc : ∀ x ∈ G, x.pl ≤ t.pos ∧ x.pl < s.n
  bd : ∀ x ∈ G, isBytes x.b ∧ 1 ≤ x.b.length ∧ x.b.length ≤ 56
  sc : ∀ k, k < s.n → ∃ c, SecI s k (inSec G k) c
  hr : t.pos < s.n → sec s.now t.pos = cutC (flatB (inSec G t.pos)) (flatB (inSec G t.pos)).length ∧ (flatB (inSec G t.pos)).length = t.used

theorem inSec_past {s : St} {t : Sd} {G : List Tr} (h : Sv s t G) (k : Nat) (hk : t.pos < k) : inSec G k = [] := by
  unfold inSec
  rw [List.filter_eq_nil_iff]
  intro x hx
  have := (h.plc x hx).1
  simp; omega

theorem cut_nil (a : Nat) (h : a ≤ ([] : List Int).length) : cutC [] a = cutC [] 0 := by
  have : a = 0 := by simpa using h
  rw [this]

theorem Sv.leave {s : St} {t : Sd} {G : List Tr} (h : Sv s t G) : Sv s t.leave G := by
  refine ⟨h.srt, fun x hx => ⟨by have := (h.plc x hx).1; simp [Sd.leave]; omega, (h.plc x hx).2⟩, h.bd, h.sc, fun hp => ?_⟩
  have e := inSec_past h t.leave.pos (by simp [Sd.leave])
  obtain ⟨c, hc⟩ := h.sc t.leave.pos hp
  rw [e] at hc ⊢
  refine ⟨?_, rfl⟩
  rw [hc.nw]
  exact cut_nil _ hc.top

theorem Sv.fit {s : St} {t : Sd} {G : List Tr} (h : Sv s t G) (b : List Int) : Sv s (t.fit b) G := by
  unfold Sd.fit
  split
  · exact h.leave
  · exact h

theorem Sv.new (n : Nat) : Sv (St.new n) ⟨0, 0, []⟩ [] := by
  refine ⟨.nil, (fun x hx => by cases hx), (fun x hx => by cases hx), fun k hk => ⟨fun _ => 0, ?_⟩, fun hp => ?_⟩
  · have hz : sec (zeros (n * 64)) k = zeros 64 := sec_zeros n k hk
    refine ⟨hz, hz, fun i _ => Nat.le_refl _, Nat.zero_le _, fun i hi => by simp [St.new] at hi, fun i _ _ => rfl, fun i x hi => by simp [inSec] at hi, fun i x hi => by simp [inSec] at hi, by simp [inSec, flatB]⟩
  · exact ⟨sec_zeros n 0 hp, rfl⟩

theorem Sv.add {s : St} {t : Sd} {G : List Tr} (h : Sv s t G) (l : List Int) : Sv (s.add l) t G :=
  ⟨h.srt, h.plc, h.bd, fun k hk => by obtain ⟨c, hc⟩ := h.sc k hk; exact ⟨c, hc.sr, hc.nw, hc.mono, hc.top, hc.wr, hc.skip, hc.usu, hc.ufi, hc.f64⟩, h.hr⟩

theorem Sv.took {s : St} {t : Sd} {G : List Tr} (h : Sv s t G) : Sv s.take t G :=
  ⟨h.srt, h.plc, h.bd, fun k hk => by obtain ⟨c, hc⟩ := h.sc k hk; exact ⟨c, hc.take⟩, h.hr⟩

theorem Sv.settled {s : St} {t : Sd} {G : List Tr} (h : Sv s t G) : Sv s.settled t G :=
  ⟨h.srt, h.plc, h.bd, fun k hk => by obtain ⟨c, hc⟩ := h.sc k hk; exact ⟨_, hc.settled⟩, h.hr⟩

theorem inSec_sured (G : List Tr) (k : Nat) : inSec (G.map Tr.sured) k = (inSec G k).map Tr.sured := by
  unfold inSec; rw [List.filter_map]; rfl

theorem Sv.surely {s : St} {t : Sd} {G : List Tr} (h : Sv s.settled t G) : Sv s.settled t (G.map Tr.sured) := by
  refine ⟨?_, ?_, ?_, fun k hk => ?_, fun hp => ?_⟩
  · rw [List.pairwise_map]; exact h.srt
  · intro x hx
    obtain ⟨y, hy, rfl⟩ := List.mem_map.1 hx
    exact h.plc y hy
  · intro x hx
    obtain ⟨y, hy, rfl⟩ := List.mem_map.1 hx
    exact h.bd y hy
  · obtain ⟨c, hc⟩ := h.sc k hk
    rw [inSec_sured]
    exact ⟨c, hc.surely⟩
  · rw [inSec_sured, flat_sured]; exact h.hr hp

def synG (s : St) (G : List Tr) : List Tr := if errC s.out = 0 then G.map Tr.sured else G

theorem done_of_err {c : Int} (h : errC c = 0) : doneB c = true := by
  unfold errC at h
  unfold doneB
  split at h
  · rename_i e; rw [e]; decide
  · cases h

theorem Sv.sync {s : St} {t : Sd} {G : List Tr} (h : Sv s t G) : Sv s.sync (synT s t) (synG s G) := by
  unfold synG synT
  by_cases e : errC s.out = 0
  · have hs : s.sync = s.take.settled := by unfold St.sync; rw [if_pos (done_of_err e)]
    rw [if_pos e, if_neg (by simp [e]), hs]
    exact h.took.settled.surely
  · rw [if_neg e]
    have hs : Sv s.sync t G := by
      unfold St.sync
      split
      · exact h.took.settled
      · exact h.took
    split
    · exact hs.leave
    · exact hs

/-- What is tried by an Append. -/
def appG (s : St) (t : Sd) (b : List Int) (G : List Tr) : List Tr :=
  if frameE b ≠ 0 then G else if s.n ≤ (t.fit b).pos then G else G ++ [⟨(t.fit b).pos, b, decide (errC s.out = 0), false⟩]

theorem inSec_snoc_eq (G : List Tr) (x : Tr) : inSec (G ++ [x]) x.pl = inSec G x.pl ++ [x] := by simp [inSec]
theorem inSec_snoc_ne (G : List Tr) (x : Tr) (k : Nat) (h : k ≠ x.pl) : inSec (G ++ [x]) k = inSec G k := by
  unfold inSec
  rw [List.filter_append, List.filter_cons_of_neg (by simp; exact fun e => h e.symm), List.filter_nil, List.append_nil]

theorem Sv.put {s : St} {t : Sd} {G : List Tr} (h : Sv s t G) (ho : s.Ok) (b : List Int) (hb : isBytes b) (h1 : 1 ≤ b.length) (h2 : b.length ≤ 56) (hp : t.pos < s.n) (hu : t.used + (b.length + 7) ≤ 64) :
    Sv (s.write t.pos (withB (sec s.now t.pos) t.used (frameB b))) (if errC s.out = 0 then t.added b else t.leave) (G ++ [⟨t.pos, b, decide (errC s.out = 0), false⟩]) := by
  obtain ⟨hr1, hr2⟩ := h.hr hp
  obtain ⟨x, hx⟩ : ∃ x : Tr, x = ⟨t.pos, b, decide (errC s.out = 0), false⟩ := ⟨_, rfl⟩
  rw [← hx]
  have hxp : x.pl = t.pos := by rw [hx]
  have hxb : x.b = b := by rw [hx]
  have hxs : x.su = false := by rw [hx]
  have hxf : x.fi = decide (errC s.out = 0) := by rw [hx]
  clear hx
  have hfl := frameB_len b
  have hF : (flatB (inSec G t.pos ++ [x])).length = t.used + (b.length + 7) := by rw [flat_snoc, List.length_append, hr2, hxb, hfl]
  have hW : withB (sec s.now t.pos) t.used (frameB b) = cutC (flatB (inSec G t.pos ++ [x])) (flatB (inSec G t.pos ++ [x])).length := by
    rw [hF]
    unfold withB
    rw [hr1, flat_snoc, hxb]
    unfold cutC
    rw [List.take_of_length_le (Nat.le_refl _), ← hr2, List.take_left, List.take_of_length_le (by rw [List.length_append, hfl]; omega), hfl, Nat.sub_sub]
  have hWl := cut_len (flatB (inSec G t.pos ++ [x])) _ (Nat.le_refl _) (by omega)
  rw [hW]
  -- the rest of what holds
  have srt' : (G ++ [x]).Pairwise (fun x y => x.pl ≤ y.pl) := by
    rw [List.pairwise_append]
    refine ⟨h.srt, List.pairwise_singleton _ _, fun y hy z hz => ?_⟩
    rw [List.mem_singleton] at hz
    subst hz
    rw [hxp]
    exact (h.plc y hy).1
  have plc' : ∀ y ∈ G ++ [x], y.pl ≤ t.pos ∧ y.pl < s.n := by
    intro y hy
    rw [List.mem_append, List.mem_singleton] at hy
    rcases hy with hy | rfl
    · exact h.plc y hy
    · rw [hxp]; exact ⟨Nat.le_refl _, hp⟩
  have bd' : ∀ y ∈ G ++ [x], isBytes y.b ∧ 1 ≤ y.b.length ∧ y.b.length ≤ 56 := by
    intro y hy
    rw [List.mem_append, List.mem_singleton] at hy
    rcases hy with hy | rfl
    · exact h.bd y hy
    · rw [hxb]; exact ⟨hb, h1, h2⟩
  have hin : inSec (G ++ [x]) t.pos = inSec G t.pos ++ [x] := by rw [← hxp]; exact inSec_snoc_eq G x
  have hin2 : ∀ k, k ≠ t.pos → inSec (G ++ [x]) k = inSec G k := fun k hk => inSec_snoc_ne G x k (by rw [hxp]; exact hk)
  obtain ⟨c, hc⟩ := h.sc t.pos hp
  by_cases hd : doneB s.out = true
  · have hs : s.write t.pos (cutC (flatB (inSec G t.pos ++ [x])) (flatB (inSec G t.pos ++ [x])).length) = s.take.wrote t.pos (cutC (flatB (inSec G t.pos ++ [x])) (flatB (inSec G t.pos ++ [x])).length) := by unfold St.write; rw [if_pos hd]
    rw [hs]
    obtain ⟨c', hc', htop⟩ := hc.take.put ho.take hp x hxs (by omega)
    have hsc : ∀ k, k < s.n → ∃ c, SecI (s.take.wrote t.pos (cutC (flatB (inSec G t.pos ++ [x])) (flatB (inSec G t.pos ++ [x])).length)) k (inSec (G ++ [x]) k) c := by
      intro k hk
      by_cases e : k = t.pos
      · rw [e, hin]; exact ⟨c', hc'⟩
      · rw [hin2 k e]
        obtain ⟨ck, hck⟩ := h.sc k hk
        exact hck.take.aside ho.take t.pos hp e _ hWl
    have hA : Sv (s.take.wrote t.pos (cutC (flatB (inSec G t.pos ++ [x])) (flatB (inSec G t.pos ++ [x])).length)) (t.added b) (G ++ [x]) :=
      ⟨srt', plc', bd', hsc, fun _ => by
        show sec _ t.pos = cutC (flatB (inSec (G ++ [x]) t.pos)) (flatB (inSec (G ++ [x]) t.pos)).length ∧ (flatB (inSec (G ++ [x]) t.pos)).length = _
        rw [hin]
        refine ⟨?_, hF⟩
        exact sec_splice _ _ t.pos s.n ho.nl hWl hp⟩
    split
    · exact hA
    · have hL := hA.leave
      exact ⟨hL.srt, hL.plc, hL.bd, hL.sc, hL.hr⟩
  · have hs : s.write t.pos (cutC (flatB (inSec G t.pos ++ [x])) (flatB (inSec G t.pos ++ [x])).length) = s.take := by unfold St.write; rw [if_neg hd]
    have he : ¬ errC s.out = 0 := fun e => hd (done_of_err e)
    rw [hs, if_neg he]
    have hxf' : x.fi = false := by rw [hxf]; simp [he]
    have hsc : ∀ k, k < s.n → ∃ c, SecI s.take k (inSec (G ++ [x]) k) c := by
      intro k hk
      by_cases e : k = t.pos
      · rw [e, hin]; exact ⟨c, hc.take.grow x hxf' hxs (by omega)⟩
      · rw [hin2 k e]
        obtain ⟨ck, hck⟩ := h.sc k hk
        exact ⟨ck, hck.take⟩
    refine ⟨srt', fun y hy => ⟨by have := (plc' y hy).1; simp [Sd.leave]; omega, (plc' y hy).2⟩, bd', hsc, fun hp2 => ?_⟩
    have hp2' : t.pos + 1 < s.n := hp2
    have e : inSec (G ++ [x]) (t.pos + 1) = [] := by
      unfold inSec
      rw [List.filter_eq_nil_iff]
      intro y hy
      have := (plc' y hy).1
      simp; omega
    obtain ⟨c2, hc2⟩ := hsc (t.pos + 1) hp2'
    show sec _ (t.pos + 1) = cutC (flatB (inSec (G ++ [x]) (t.pos + 1))) (flatB (inSec (G ++ [x]) (t.pos + 1))).length ∧ (flatB (inSec (G ++ [x]) (t.pos + 1))).length = 0
    rw [e] at hc2 ⊢
    refine ⟨?_, rfl⟩
    rw [hc2.nw]
    exact cut_nil _ hc2.top

theorem Sv.app {s : St} {t : Sd} {G : List Tr} (h : Sv s t G) (ho : s.Ok) (ht : t.Ok s.n) (b : List Int) (hb : isBytes b) : Sv (appS s t b) (appT s t b) (appG s t b G) := by
  unfold appS appT appG
  by_cases hE : frameE b = 0
  · have hE' : ¬ frameE b ≠ 0 := fun e => e hE
    rw [if_neg hE', if_neg hE', if_neg hE']
    have hl : 1 ≤ b.length ∧ b.length ≤ 56 := by
      unfold frameE at hE
      split at hE
      · cases hE
      · split at hE
        · cases hE
        · omega
    obtain ⟨_, f2, _⟩ := ht.fit b hE
    by_cases hn : s.n ≤ (t.fit b).pos
    · rw [if_pos hn, if_pos hn, if_pos hn]; exact h.fit b
    · rw [if_neg hn, if_neg hn, if_neg hn]
      exact (h.fit b).put ho b hb hl.1 hl.2 (by omega) f2
  · rw [if_pos hE, if_pos hE, if_pos hE]; exact h

theorem below_split (G : List Tr) (k : Nat) : G.Pairwise (fun x y => x.pl ≤ y.pl) → (G.filter fun x => decide (x.pl < k + 1)) = (G.filter fun x => decide (x.pl < k)) ++ inSec G k := by
  induction G with
  | nil => intro _; rfl
  | cons x G ih =>
    intro h
    rw [List.pairwise_cons] at h
    have hI := ih h.2
    unfold inSec at hI ⊢
    by_cases h1 : x.pl < k
    · rw [List.filter_cons_of_pos (by simp; omega), List.filter_cons_of_pos (by simp; omega), List.filter_cons_of_neg (by simp; omega), hI, List.cons_append]
    · have hn : (G.filter fun x => decide (x.pl < k)) = [] := by
        rw [List.filter_eq_nil_iff]
        intro y hy
        have := h.1 y hy
        simp; omega
      rw [hn, List.nil_append] at hI
      have hx : (List.filter (fun x : Tr => decide (x.pl < k)) (x :: G)) = [] := by rw [List.filter_cons_of_neg (by simp; omega), hn]
      rw [hx, List.nil_append]
      by_cases h2 : x.pl = k
      · rw [List.filter_cons_of_pos (by simp; omega), List.filter_cons_of_pos (by simp; omega), hI]
      · rw [List.filter_cons_of_neg (by simp; omega), List.filter_cons_of_neg (by simp; omega), hI]

theorem Sv.open {s : St} {t : Sd} {G : List Tr} (h : Sv s t G) (ho : s.Ok) (ch : List Int) : ∀ k, k ≤ s.n → Btw ((openK (s.crash ch).now k).recs.map Prod.snd) (G.filter fun x => decide (x.pl < k)) := by
  intro k
  induction k with
  | zero =>
    intro _
    have : (G.filter fun x => decide (x.pl < 0)) = [] := by rw [List.filter_eq_nil_iff]; intro x _; simp
    rw [this]
    exact .nil
  | succ k ih =>
    intro hk
    rw [below_split G k h.srt]
    have hrec : (openK (s.crash ch).now (k + 1)).recs.map Prod.snd = (openK (s.crash ch).now k).recs.map Prod.snd ++ scanB (sec (s.crash ch).now k) := by
      simp only [openK, List.map_append, List.map_map]
      congr 1
      exact List.map_id _
    rw [hrec]
    refine (ih (by omega)).append ?_
    obtain ⟨c, hc⟩ := h.sc k (by omega)
    obtain ⟨a, ha, h0, h1⟩ := hc.torn ho (by omega) ch s.since.length (Nat.le_refl _)
    have hnow : sec (s.crash ch).now k = cutC (flatB (inSec G k)) a := ha
    rw [hnow]
    unfold cutC
    exact scan_cut _ a _ (fun x hx => h.bd x (List.mem_filter.1 hx).1) (Nat.le_trans h1 hc.top) (hc.usu.le h0)

/-- What is found behind a crash. -/
theorem Sv.found {s : St} {t : Sd} {G : List Tr} (h : Sv s t G) (ho : s.Ok) (ch : List Int) : Btw (bodies (openT (s.crash ch))) G := by
  have := h.open ho ch s.n (Nat.le_refl _)
  have e : (G.filter fun x => decide (x.pl < s.n)) = G := by
    rw [List.filter_eq_self]
    intro x hx
    have := (h.plc x hx).2
    simpa using this
  rwa [e] at this

end Go.Proofs.YtafkkehcacdodaaGreat

namespace Go.Proofs.YtafkkehcacdodaaGreat
open Go.RowKit

theorem Few.write {s : St} {n q : Nat} (h : Few s n q) (k : Nat) (l : List Int) : Few (s.write k l) n (q + 1) := by
  unfold St.write
  split
  · exact ⟨h.n, Nat.succ_le_succ h.ops, by simp [St.wrote, St.take]; exact h.sin⟩
  · exact h.take

theorem Few.app {s : St} {n q : Nat} (h : Few s n q) (t : Sd) (b : List Int) : Few (appS s t b) n (q + 1) := by
  unfold appS
  split
  · exact h.mono
  · split
    · exact h.mono
    · exact h.write _ _

theorem outs_write (s : St) (k : Nat) (l : List Int) : (s.write k l).outs.length ≤ s.outs.length := by
  unfold St.write
  split
  · exact outs_take s
  · exact outs_take s

theorem outs_app (s : St) (t : Sd) (b : List Int) : (appS s t b).outs.length ≤ s.outs.length := by
  unfold appS
  split
  · exact Nat.le_refl _
  · split
    · exact Nat.le_refl _
    · exact outs_write s _ _

theorem few_new (n q : Nat) : Few (St.new n) n q := ⟨rfl, Nat.zero_le _, Nat.zero_le _⟩

theorem out_nil {s : St} (h : s.outs.length ≤ 0) : s.out = 0 := by
  have : s.outs = [] := List.eq_nil_of_length_eq_zero (by omega)
  unfold St.out; rw [this]; rfl

theorem Held.grow {w w' : World} {tag tag' : Nat → Nat} {v : Value} {l : List Int} (h : Held w tag v l) (hb : Below w.heap.size w w') (ht : ∀ k, k < w.heap.size → tag' k = tag k) : Held w' tag' v l :=
  ⟨h.1.later hb, fun g hg => ⟨by rw [ht g (h.2 g hg).2]; exact (h.2 g hg).1, Nat.lt_of_lt_of_le (h.2 g hg).2 hb.size⟩⟩

theorem held0 {w : World} {v : Value} {l : List Int} (h : Bts w v l) (hl : l ≠ []) : Held w (fun _ => 0) v l := ⟨h, fun g hg => ⟨rfl, bts_lt h hl g hg⟩⟩

end Go.Proofs.YtafkkehcacdodaaGreat

namespace Go.Proofs.YtafkkehcacdodaaGreat
open Go.RowKit

theorem bytesE_len {e : En} (h : e.May) : 9 ≤ (bytesE e).length ∧ (bytesE e).length ≤ 19 := by
  have h1 := bytesE_length h
  rcases h.kind with ⟨hk, _⟩ | ⟨hk, _⟩ | ⟨hk, _⟩ <;> rw [hk] at h1 <;> simp [sizeK] at h1 <;> omega

theorem frameE_bytes {e : En} (h : e.May) : frameE (bytesE e) = 0 := by
  have := bytesE_len h
  unfold frameE
  rw [if_neg (by omega), if_neg (by omega)]

/-- Entries are appended one behind the other, up to the first error: the error, the disk, the strand. -/
def layE : St → Sd → List En → Int
  | _, _, [] => 0
  | s, t, e :: r => if appE s t (bytesE e) ≠ 0 then appE s t (bytesE e) else layE (appS s t (bytesE e)) (appT s t (bytesE e)) r
def layS : St → Sd → List En → St
  | s, _, [] => s
  | s, t, e :: r => if appE s t (bytesE e) ≠ 0 then appS s t (bytesE e) else layS (appS s t (bytesE e)) (appT s t (bytesE e)) r
def layT : St → Sd → List En → Sd
  | _, t, [] => t
  | s, t, e :: r => if appE s t (bytesE e) ≠ 0 then appT s t (bytesE e) else layT (appS s t (bytesE e)) (appT s t (bytesE e)) r

/-- Appended, and a Sync. -/
def wrtE (s : St) (t : Sd) (l : List En) : Int := if layE s t l ≠ 0 then layE s t l else errC (layS s t l).out
def wrtS (s : St) (t : Sd) (l : List En) : St := if layE s t l ≠ 0 then layS s t l else (layS s t l).sync
def wrtT (s : St) (t : Sd) (l : List En) : Sd := if layE s t l ≠ 0 then layT s t l else synT (layS s t l) (layT s t l)

/-- A book, its strand and its disk. -/
structure Bm where
  s : St
  t : Sd
  L : List En
  D : List En

/-- The release that is owed for a grant. -/
def relE (e : En) : En := ⟨3, e.time, 0, e.addr, e.block⟩

def Bm.payE (b : Bm) : Int := if b.D = [] then 0 else wrtE b.s b.t b.D
def Bm.paid (b : Bm) : Bm := ⟨wrtS b.s b.t b.D, wrtT b.s b.t b.D, if wrtE b.s b.t b.D = 0 then b.L ++ b.D else b.L, if wrtE b.s b.t b.D = 0 then [] else b.D⟩
def Bm.pay (b : Bm) : Bm := if b.D = [] then b else b.paid
def Bm.wrote (b : Bm) (e : En) : Bm := ⟨wrtS b.s b.t [e], wrtT b.s b.t [e], if wrtE b.s b.t [e] = 0 then b.L ++ [e] else b.L, if wrtE b.s b.t [e] ≠ 0 ∧ e.kind = 2 ∧ wrtE b.s b.t [e] ≠ 6 then b.D ++ [relE e] else b.D⟩
def Bm.putE (b : Bm) (e : En) : Int := if checkE e ≠ 0 then checkE e else if b.payE ≠ 0 then b.payE else wrtE b.pay.s b.pay.t [e]
def Bm.put (b : Bm) (e : En) : Bm := if checkE e ≠ 0 then b else if b.payE ≠ 0 then b.pay else b.pay.wrote e

/-- The entries among records. -/
def foundE (l : List (List Int)) : List En := (l.filter fun b => decide (whyE b = 0)).map entE
def bootE (now : Int) : En := ⟨1, now, 0, 0, 0⟩
/-- The releases of what is open. -/
def endsE (S : List Sp) (now : Int) : List En := (S.filter fun s => s.opn).map fun s => ⟨3, max now s.frm, 0, s.addr, s.block⟩
def moreE (L : List En) (now : Int) : List En := endsE (spans L) now ++ [bootE now]
def goodT (now : Int) : Bool := decide (0 ≤ now ∧ now ≤ 1099511627776)
def startL (s : St) : List En := foundE (bodies (openT s))
def opnE (s : St) (now : Int) : Int := wrtE s (openT s) (moreE (startL s) now)
def opnS (s : St) (now : Int) : St := wrtS s (openT s) (moreE (startL s) now)
def opnB (s : St) (now : Int) : Bm := ⟨opnS s now, wrtT s (openT s) (moreE (startL s) now), startL s ++ moreE (startL s) now, []⟩

/-- Entries that may be. -/
def Fine (l : List En) : Prop := ∀ e ∈ l, e.May ∧ e.Ok

theorem Fine.app {l m : List En} (h : Fine l) (k : Fine m) : Fine (l ++ m) := fun e he => by
  rcases List.mem_append.1 he with he | he
  · exact h e he
  · exact k e he
theorem Fine.nil : Fine [] := fun e he => by cases he
theorem Fine.one {e : En} (h : e.May) (k : e.Ok) : Fine [e] := fun x hx => by rw [List.mem_singleton.1 hx]; exact ⟨h, k⟩
theorem Fine.ok {l : List En} (h : Fine l) : ∀ e ∈ l, e.Ok := fun e he => (h e he).2

theorem checkE_zero {e : En} (h : checkE e = 0) : e.May := by
  unfold checkE at h
  split at h
  · rename_i hm; exact of_decide_eq_true hm
  · cases h

theorem checkE_may {e : En} (h : e.May) : checkE e = 0 := by
  unfold checkE mayB
  rw [if_pos (decide_eq_true h)]

theorem check_cases (e : En) : checkE e = 0 ∨ checkE e = 1 := by
  unfold checkE
  split <;> simp

theorem rel_may {e : En} (h : e.May) (hk : e.kind = 2) : (relE e).May := by
  refine ⟨h.time0, h.time1, .inr (.inr ⟨rfl, ?_, ?_, rfl⟩)⟩
  · rcases h.kind with ⟨k, _⟩ | ⟨_, k, _⟩ | ⟨k, _⟩
    · omega
    · exact k
    · omega
  · rcases h.kind with ⟨k, _⟩ | ⟨_, _, k⟩ | ⟨k, _⟩
    · omega
    · exact k
    · omega

theorem rel_ok {e : En} (h : e.Ok) : (relE e).Ok := ⟨(by decide : (-9223372036854775808 : Int) ≤ 3), (by decide : (3 : Int) ≤ 9223372036854775807), h.time0, h.time1, (by decide : (0 : Int) ≤ 0), (by decide : (0 : Int) < 4294967296), h.addr0, h.addr1, h.block0, h.block1⟩

theorem goodT_boot {now : Int} : goodT now = true ↔ (bootE now).May := by
  unfold goodT
  rw [decide_eq_true_iff]
  exact ⟨fun h => ⟨h.1, h.2, .inl ⟨rfl, rfl, rfl, rfl⟩⟩, fun h => ⟨h.time0, h.time1⟩⟩

theorem boot_okE {now : Int} (h0 : 0 ≤ now) (h1 : now ≤ 1099511627776) : (bootE now).Ok := ⟨(by decide : (-9223372036854775808 : Int) ≤ 1), (by decide : (1 : Int) ≤ 9223372036854775807), by show _ ≤ now; omega, by show now ≤ _; omega, (by decide : (0 : Int) ≤ 0), (by decide : (0 : Int) < 4294967296), (by decide : (0 : Int) ≤ 0), (by decide : (0 : Int) < 4294967296), (by decide : (-9223372036854775808 : Int) ≤ 0), (by decide : (0 : Int) ≤ 9223372036854775807)⟩

theorem found_fine {l : List (List Int)} (h : ∀ b ∈ l, isBytes b) : Fine (foundE l) := by
  intro e he
  unfold foundE at he
  obtain ⟨b, hb, rfl⟩ := List.mem_map.1 he
  obtain ⟨hb1, hb2⟩ := List.mem_filter.1 hb
  exact ⟨(bytesE_entE (h b hb1) (by simpa using hb2)).1, entE_ok b (h b hb1)⟩

theorem found_len (l : List (List Int)) : (foundE l).length ≤ l.length := by
  unfold foundE
  rw [List.length_map]
  exact List.length_filter_le _ _

/-- Each span is a grant's. -/
theorem spans_from (l : List En) : ∀ s ∈ spans l, ∃ e ∈ l, e.kind = 2 ∧ s.sub = e.sub ∧ s.addr = e.addr ∧ s.block = e.block ∧ s.frm = e.time := by
  unfold spans
  suffices H : ∀ (m l : List En) (acc : List Sp), (∀ e ∈ l, e ∈ m) → (∀ s ∈ acc, ∃ e ∈ m, e.kind = 2 ∧ s.sub = e.sub ∧ s.addr = e.addr ∧ s.block = e.block ∧ s.frm = e.time) → ∀ s ∈ l.foldl stepS acc, ∃ e ∈ m, e.kind = 2 ∧ s.sub = e.sub ∧ s.addr = e.addr ∧ s.block = e.block ∧ s.frm = e.time from
    H l l [] (fun _ h => h) (fun s hs => by cases hs)
  intro m l
  induction l with
  | nil => intro acc _ h; exact h
  | cons e l ih =>
    intro acc hm h
    refine ih (stepS acc e) (fun x hx => hm x (by simp [hx])) ?_
    have hshut : ∀ (o : Option Nat) (t : Int), (∀ i, o = some i → i < acc.length) → ∀ s ∈ shutI acc o t, ∃ e ∈ m, e.kind = 2 ∧ s.sub = e.sub ∧ s.addr = e.addr ∧ s.block = e.block ∧ s.frm = e.time := by
      intro o t ho s hs
      cases o with
      | none => exact h s hs
      | some i =>
        rcases List.mem_or_eq_of_mem_set hs with h' | rfl
        · exact h s h'
        · have hi := ho i rfl
          refine h (acc.getD i default) ?_
          rw [List.getD_eq_getElem?_getD, List.getElem?_eq_getElem hi]
          exact List.getElem_mem hi
    unfold stepS
    split
    · rename_i hk
      intro s hs
      rcases List.mem_append.1 hs with hs | hs
      · exact hshut _ _ (fun i hi => openI_lt hi) s hs
      · rw [List.mem_singleton.1 hs]
        exact ⟨e, hm e (by simp), hk, rfl, rfl, rfl, rfl⟩
    · split
      · exact hshut _ _ (fun i hi => openI_lt hi)
      · exact h

theorem ends_fine {l : List En} (h : Fine l) {now : Int} (h0 : 0 ≤ now) (h1 : now ≤ 1099511627776) : Fine (endsE (spans l) now) := by
  intro e he
  unfold endsE at he
  obtain ⟨s, hs, rfl⟩ := List.mem_map.1 he
  obtain ⟨x, hx, hk, _, e2, e3, e4⟩ := spans_from l s (List.mem_filter.1 hs).1
  obtain ⟨hm, ho⟩ := h x hx
  have t0 := hm.time0
  have t1 := hm.time1
  have hb : 0 ≤ x.block ∧ x.block ≤ 65535 := by
    rcases hm.kind with ⟨k, _⟩ | ⟨_, k⟩ | ⟨k, _⟩
    · omega
    · exact k
    · omega
  have ha0 := ho.addr0
  have ha1 := ho.addr1
  refine ⟨⟨?_, ?_, .inr (.inr ⟨rfl, ?_, ?_, rfl⟩)⟩, ⟨(by decide : (-9223372036854775808 : Int) ≤ 3), (by decide : (3 : Int) ≤ 9223372036854775807), ?_, ?_, (by decide : (0 : Int) ≤ 0), (by decide : (0 : Int) < 4294967296), ?_, ?_, ?_, ?_⟩⟩
  · show 0 ≤ max now s.frm; omega
  · show max now s.frm ≤ _; omega
  · show 0 ≤ s.block; omega
  · show s.block ≤ _; omega
  · show _ ≤ max now s.frm; omega
  · show max now s.frm ≤ _; omega
  · show 0 ≤ s.addr; omega
  · show s.addr < _; omega
  · show _ ≤ s.block; omega
  · show s.block ≤ _; omega

theorem more_fine {l : List En} (h : Fine l) {now : Int} (h0 : 0 ≤ now) (h1 : now ≤ 1099511627776) : Fine (moreE l now) :=
  (ends_fine h h0 h1).app (.one (goodT_boot.1 (by simp [goodT, h0, h1])) (boot_okE h0 h1))

theorem ends_len (l : List En) (now : Int) : (endsE (spans l) now).length ≤ l.length := by
  unfold endsE
  rw [List.length_map]
  exact Nat.le_trans (List.length_filter_le _ _) (spans_length l)

theorem more_len (l : List En) (now : Int) : (moreE l now).length ≤ l.length + 1 := by
  unfold moreE
  rw [List.length_append]
  have := ends_len l now
  simp
  omega

/-! ### Numbers stay small -/
theorem appS_ok {s : St} (h : s.Ok) {t : Sd} (ht : t.Ok s.n) (b : List Int) (hb : isBytes b) : (appS s t b).Ok ∧ (appS s t b).n = s.n := by
  unfold appS
  by_cases hE : frameE b ≠ 0
  · rw [if_pos hE]; exact ⟨h, rfl⟩
  rw [if_neg hE]
  have hE' : frameE b = 0 := by simpa using hE
  obtain ⟨f1, f2, _⟩ := ht.fit b hE'
  have hfl := frameB_len b
  have hl : b.length ≤ 56 := by
    unfold frameE at hE'
    split at hE'
    · cases hE'
    · split at hE'
      · cases hE'
      · omega
  split
  · exact ⟨h, rfl⟩
  · rename_i hn
    have hs := sec_len h.nl (show (t.fit b).pos < s.n by omega)
    have hW : (withB (sec s.now (t.fit b).pos) (t.fit b).used (frameB b)).length = 64 := withB_len _ _ _ hs (by omega)
    have hWb := withB_bytes _ (t.fit b).used _ (sec_bytes h.nb (t.fit b).pos) (frameB_bytes b hb hl)
    unfold St.write
    split
    · exact ⟨h.take.wrote (by show _ < s.n; omega) hW hWb, rfl⟩
    · exact ⟨h.take, rfl⟩

theorem sync_okS {s : St} (h : s.Ok) : s.sync.Ok ∧ s.sync.n = s.n := by
  unfold St.sync
  split
  · exact ⟨h.take.settled, rfl⟩
  · exact ⟨h.take, rfl⟩

/-- What goes with a book: small numbers. -/
structure Nb (s : St) (t : Sd) (q : Nat) : Prop where
  ok : s.Ok
  tk : t.Ok s.n
  ops : s.ops ≤ q
  sin : s.since.length ≤ q

theorem Nb.app {s : St} {t : Sd} {q : Nat} (h : Nb s t q) (b : List Int) (hb : isBytes b) : Nb (appS s t b) (appT s t b) (q + 1) ∧ (appS s t b).n = s.n ∧ (appT s t b).recs.length ≤ t.recs.length + 1 := by
  obtain ⟨h1, h2⟩ := appS_ok h.ok h.tk b hb
  obtain ⟨h3, h4⟩ := appT_ok (s := s) h.tk b hb
  have hf : Few s s.n q := ⟨rfl, h.ops, h.sin⟩
  have hf2 := hf.app t b
  exact ⟨⟨h1, by rw [h2]; exact h3, hf2.ops, hf2.sin⟩, h2, h4⟩

theorem Nb.mono {s : St} {t : Sd} {q q' : Nat} (h : Nb s t q) (hq : q ≤ q') : Nb s t q' := ⟨h.ok, h.tk, Nat.le_trans h.ops hq, Nat.le_trans h.sin hq⟩

theorem Nb.sync {s : St} {t : Sd} {q : Nat} (h : Nb s t q) : Nb s.sync (synT s t) (q + 1) ∧ s.sync.n = s.n ∧ (synT s t).recs = t.recs := by
  obtain ⟨h1, h2⟩ := sync_okS h.ok
  obtain ⟨h3, h4⟩ := synT_ok (s := s) h.tk
  have hf : Few s s.n q := ⟨rfl, h.ops, h.sin⟩
  have hf2 := hf.sync
  exact ⟨⟨h1, by rw [h2]; exact h3, hf2.ops, hf2.sin⟩, h2, h4⟩

theorem Nb.lay {q : Nat} : ∀ (l : List En) {s : St} {t : Sd}, Nb s t q → Nb (layS s t l) (layT s t l) (q + l.length) ∧ (layS s t l).n = s.n ∧ (layT s t l).recs.length ≤ t.recs.length + l.length ∧ (layS s t l).outs.length ≤ s.outs.length := by
  intro l
  induction l generalizing q with
  | nil => intro s t h; exact ⟨h, rfl, Nat.le_refl _, Nat.le_refl _⟩
  | cons e r ih =>
    intro s t h
    obtain ⟨h1, h2, h3⟩ := h.app (bytesE e) (bytesE_bytes e)
    have h4 := outs_app s t (bytesE e)
    unfold layS layT
    by_cases he : appE s t (bytesE e) ≠ 0
    · rw [if_pos he, if_pos he]
      exact ⟨h1.mono (by simp), h2, by simp; omega, h4⟩
    · rw [if_neg he, if_neg he]
      obtain ⟨i1, i2, i3, i4⟩ := ih h1
      refine ⟨i1.mono (by simp; omega), i2.trans h2, ?_, Nat.le_trans i4 h4⟩
      rw [List.length_cons]; omega

theorem Nb.wrt {q : Nat} (l : List En) {s : St} {t : Sd} (h : Nb s t q) : Nb (wrtS s t l) (wrtT s t l) (q + l.length + 1) ∧ (wrtS s t l).n = s.n ∧ (wrtT s t l).recs.length ≤ t.recs.length + l.length ∧ (wrtS s t l).outs.length ≤ s.outs.length := by
  obtain ⟨h1, h2, h3, h4⟩ := Nb.lay l h
  unfold wrtS wrtT
  split
  · exact ⟨h1.mono (by omega), h2, h3, h4⟩
  · obtain ⟨k1, k2, k3⟩ := h1.sync
    exact ⟨k1, k2.trans h2, by rw [k3]; exact h3, Nat.le_trans (outs_sync _) h4⟩

/-- A book's numbers: every call of its disk counts one in q. -/
structure Bm.Ok (b : Bm) (q : Nat) : Prop where
  nb : Nb b.s b.t q
  fL : Fine b.L
  fD : Fine b.D
  d1 : b.D.length ≤ 1

theorem Bm.Ok.mono {b : Bm} {q q' : Nat} (h : b.Ok q) (hq : q ≤ q') : b.Ok q' := ⟨h.nb.mono hq, h.fL, h.fD, h.d1⟩

/-- How a book has grown. -/
structure Grew (b b' : Bm) (n : Nat) : Prop where
  sn : b'.s.n = b.s.n
  recs : b'.t.recs.length ≤ b.t.recs.length + n
  L : b'.L.length ≤ b.L.length + n
  outs : b'.s.outs.length ≤ b.s.outs.length

theorem Grew.refl (b : Bm) (n : Nat) : Grew b b n := ⟨rfl, by omega, by omega, Nat.le_refl _⟩
theorem Grew.trans {b c d : Bm} {n m : Nat} (h : Grew b c n) (k : Grew c d m) : Grew b d (n + m) := ⟨k.sn.trans h.sn, by have := h.recs; have := k.recs; omega, by have := h.L; have := k.L; omega, Nat.le_trans k.outs h.outs⟩

theorem Bm.Ok.pay {b : Bm} {q : Nat} (h : b.Ok q) : b.pay.Ok (q + 2) ∧ Grew b b.pay 1 ∧ (b.payE = 0 → b.pay.D = []) := by
  unfold Bm.pay Bm.payE
  by_cases hD : b.D = []
  · rw [if_pos hD, if_pos hD]; exact ⟨h.mono (by omega), Grew.refl _ _, fun _ => hD⟩
  · rw [if_neg hD, if_neg hD]
    obtain ⟨h1, h2, h3, h4⟩ := Nb.wrt b.D h.nb
    have hd := h.d1
    unfold Bm.paid
    refine ⟨⟨h1.mono (by omega), ?_, ?_, ?_⟩, ⟨h2, ?_, ?_, h4⟩, fun e => if_pos e⟩
    · dsimp only
      split
      · exact h.fL.app h.fD
      · exact h.fL
    · dsimp only
      split
      · exact .nil
      · exact h.fD
    · dsimp only
      split
      · simp
      · exact hd
    · exact Nat.le_trans h3 (by omega)
    · dsimp only
      split
      · rw [List.length_append]; omega
      · omega

theorem Bm.Ok.wrote {b : Bm} {q : Nat} (h : b.Ok q) (hD : b.D = []) {e : En} (hm : e.May) (ho : e.Ok) : (b.wrote e).Ok (q + 2) ∧ Grew b (b.wrote e) 1 := by
  obtain ⟨h1, h2, h3, h4⟩ := Nb.wrt [e] h.nb
  unfold Bm.wrote
  refine ⟨⟨h1.mono (by simp), ?_, ?_, ?_⟩, ⟨h2, h3, ?_, h4⟩⟩
  · dsimp only
    split
    · exact h.fL.app (.one hm ho)
    · exact h.fL
  · dsimp only
    split
    · rename_i hc
      exact h.fD.app (.one (rel_may hm hc.2.1) (rel_ok ho))
    · exact h.fD
  · dsimp only
    rw [hD]
    split <;> simp
  · dsimp only
    split
    · simp
    · omega

theorem Bm.Ok.put {b : Bm} {q : Nat} (h : b.Ok q) {e : En} (ho : e.Ok) : (b.put e).Ok (q + 4) ∧ Grew b (b.put e) 2 := by
  unfold Bm.put
  by_cases hc : checkE e = 0
  · rw [if_neg (by simpa using hc)]
    obtain ⟨p1, p2, p3⟩ := h.pay
    by_cases hp : b.payE = 0
    · rw [if_neg (by simpa using hp)]
      obtain ⟨w1, w2⟩ := p1.wrote (p3 hp) (checkE_zero hc) ho
      exact ⟨w1, p2.trans w2⟩
    · rw [if_pos hp]
      exact ⟨p1.mono (by omega), p2.trans (Grew.refl _ 1)⟩
  · rw [if_pos hc]
    exact ⟨h.mono (by omega), Grew.refl _ _⟩

theorem start_len {s : St} (h : s.Ok) : (startL s).length ≤ s.n * 8 := by
  have h1 := found_len (bodies (openT s))
  rw [bodies_len] at h1
  exact Nat.le_trans h1 (openT_ok h).2.1

theorem start_fine {s : St} (h : s.Ok) : Fine (startL s) := found_fine (fun b hb => by
  obtain ⟨x, hx, rfl⟩ := List.mem_map.1 hb
  exact ((openT_ok h).1.rc x hx).2.1)

theorem opn_ok {s : St} (h : s.Ok) {q : Nat} (hops : s.ops ≤ q) (hsin : s.since.length ≤ q) {now : Int} (h0 : 0 ≤ now) (h1 : now ≤ 1099511627776) :
    (opnB s now).Ok (q + (moreE (startL s) now).length + 1) ∧ (opnB s now).s.n = s.n ∧ (opnB s now).t.recs.length ≤ (openT s).recs.length + (moreE (startL s) now).length ∧ (opnB s now).s.outs.length ≤ s.outs.length := by
  have hn : Nb s (openT s) q := ⟨h, (openT_ok h).1, hops, hsin⟩
  obtain ⟨k1, k2, k3, k4⟩ := Nb.wrt (moreE (startL s) now) hn
  exact ⟨⟨k1, (start_fine h).app (more_fine (start_fine h) h0 h1), .nil, by simp [opnB]⟩, k2, k3, k4⟩

end Go.Proofs.YtafkkehcacdodaaGreat

namespace Go.Proofs.YtafkkehcacdodaaGreat
open Go.RowKit

/-- What holds of a strand on its disk. -/
structure SvF (F : Nat) (s : St) (t : Sd) (G : List Tr) : Prop where
  srt : G.Pairwise (fun x y => x.pl ≤ y.pl)
  plc : ∀ x ∈ G, x.pl ≤ t.pos ∧ x.pl < s.n
  bd : ∀ x ∈ G, isBytes x.b ∧ 1 ≤ x.b.length ∧ x.b.length ≤ 56
  flo : ∀ x ∈ G, F ≤ x.pl
  fl : F ≤ t.pos
  sc : ∀ k, F ≤ k → k < s.n → ∃ c, SecI s k (inSec G k) c
  hr : t.pos < s.n → sec s.now t.pos = cutC (flatB (inSec G t.pos)) (flatB (inSec G t.pos)).length ∧ (flatB (inSec G t.pos)).length = t.used

theorem inSec_pastF {F : Nat} {s : St} {t : Sd} {G : List Tr} (h : SvF F s t G) (k : Nat) (hk : t.pos < k) : inSec G k = [] := by
  unfold inSec
  rw [List.filter_eq_nil_iff]
  intro x hx
  have := (h.plc x hx).1
  simp; omega

theorem SvF.leave {F : Nat} {s : St} {t : Sd} {G : List Tr} (h : SvF F s t G) : SvF F s t.leave G := by
  refine ⟨h.srt, fun x hx => ⟨by have := (h.plc x hx).1; simp [Sd.leave]; omega, (h.plc x hx).2⟩, h.bd, h.flo, by have := h.fl; simp [Sd.leave]; omega, h.sc, fun hp => ?_⟩
  have e := inSec_pastF h t.leave.pos (by simp [Sd.leave])
  obtain ⟨c, hc⟩ := h.sc t.leave.pos (by have := h.fl; simp [Sd.leave]; omega) hp
  rw [e] at hc ⊢
  refine ⟨?_, rfl⟩
  rw [hc.nw]
  exact cut_nil _ hc.top

theorem SvF.fit {F : Nat} {s : St} {t : Sd} {G : List Tr} (h : SvF F s t G) (b : List Int) : SvF F s (t.fit b) G := by
  unfold Sd.fit
  split
  · exact h.leave
  · exact h

theorem SvF.add {F : Nat} {s : St} {t : Sd} {G : List Tr} (h : SvF F s t G) (l : List Int) : SvF F (s.add l) t G :=
  ⟨h.srt, h.plc, h.bd, h.flo, h.fl, fun k hF hk => by obtain ⟨c, hc⟩ := h.sc k hF hk; exact ⟨c, hc.sr, hc.nw, hc.mono, hc.top, hc.wr, hc.skip, hc.usu, hc.ufi, hc.f64⟩, h.hr⟩

theorem SvF.took {F : Nat} {s : St} {t : Sd} {G : List Tr} (h : SvF F s t G) : SvF F s.take t G :=
  ⟨h.srt, h.plc, h.bd, h.flo, h.fl, fun k hF hk => by obtain ⟨c, hc⟩ := h.sc k hF hk; exact ⟨c, hc.take⟩, h.hr⟩

theorem SvF.settled {F : Nat} {s : St} {t : Sd} {G : List Tr} (h : SvF F s t G) : SvF F s.settled t G :=
  ⟨h.srt, h.plc, h.bd, h.flo, h.fl, fun k hF hk => by obtain ⟨c, hc⟩ := h.sc k hF hk; exact ⟨_, hc.settled⟩, h.hr⟩

theorem SvF.surely {F : Nat} {s : St} {t : Sd} {G : List Tr} (h : SvF F s.settled t G) : SvF F s.settled t (G.map Tr.sured) := by
  refine ⟨?_, ?_, ?_, ?_, h.fl, fun k hF hk => ?_, fun hp => ?_⟩
  · rw [List.pairwise_map]; exact h.srt
  · intro x hx
    obtain ⟨y, hy, rfl⟩ := List.mem_map.1 hx
    exact h.plc y hy
  · intro x hx
    obtain ⟨y, hy, rfl⟩ := List.mem_map.1 hx
    exact h.bd y hy
  · intro x hx
    obtain ⟨y, hy, rfl⟩ := List.mem_map.1 hx
    exact h.flo y hy
  · obtain ⟨c, hc⟩ := h.sc k hF hk
    rw [inSec_sured]
    exact ⟨c, hc.surely⟩
  · rw [inSec_sured, flat_sured]; exact h.hr hp

theorem SvF.sync {F : Nat} {s : St} {t : Sd} {G : List Tr} (h : SvF F s t G) : SvF F s.sync (synT s t) (synG s G) := by
  unfold synG synT
  by_cases e : errC s.out = 0
  · have hs : s.sync = s.take.settled := by unfold St.sync; rw [if_pos (done_of_err e)]
    rw [if_pos e, if_neg (by simp [e]), hs]
    exact h.took.settled.surely
  · rw [if_neg e]
    have hs : SvF F s.sync t G := by
      unfold St.sync
      split
      · exact h.took.settled
      · exact h.took
    split
    · exact hs.leave
    · exact hs

theorem SvF.put {F : Nat} {s : St} {t : Sd} {G : List Tr} (h : SvF F s t G) (ho : s.Ok) (b : List Int) (hb : isBytes b) (h1 : 1 ≤ b.length) (h2 : b.length ≤ 56) (hp : t.pos < s.n) (hu : t.used + (b.length + 7) ≤ 64) :
    SvF F (s.write t.pos (withB (sec s.now t.pos) t.used (frameB b))) (if errC s.out = 0 then t.added b else t.leave) (G ++ [⟨t.pos, b, decide (errC s.out = 0), false⟩]) := by
  obtain ⟨hr1, hr2⟩ := h.hr hp
  obtain ⟨x, hx⟩ : ∃ x : Tr, x = ⟨t.pos, b, decide (errC s.out = 0), false⟩ := ⟨_, rfl⟩
  rw [← hx]
  have hxp : x.pl = t.pos := by rw [hx]
  have hxb : x.b = b := by rw [hx]
  have hxs : x.su = false := by rw [hx]
  have hxf : x.fi = decide (errC s.out = 0) := by rw [hx]
  clear hx
  have hfl := frameB_len b
  have hF : (flatB (inSec G t.pos ++ [x])).length = t.used + (b.length + 7) := by rw [flat_snoc, List.length_append, hr2, hxb, hfl]
  have hW : withB (sec s.now t.pos) t.used (frameB b) = cutC (flatB (inSec G t.pos ++ [x])) (flatB (inSec G t.pos ++ [x])).length := by
    rw [hF]
    unfold withB
    rw [hr1, flat_snoc, hxb]
    unfold cutC
    rw [List.take_of_length_le (Nat.le_refl _), ← hr2, List.take_left, List.take_of_length_le (by rw [List.length_append, hfl]; omega), hfl, Nat.sub_sub]
  have hWl := cut_len (flatB (inSec G t.pos ++ [x])) _ (Nat.le_refl _) (by omega)
  rw [hW]
  -- the rest of what holds
  have srt' : (G ++ [x]).Pairwise (fun x y => x.pl ≤ y.pl) := by
    rw [List.pairwise_append]
    refine ⟨h.srt, List.pairwise_singleton _ _, fun y hy z hz => ?_⟩
    rw [List.mem_singleton] at hz
    subst hz
    rw [hxp]
    exact (h.plc y hy).1
  have plc' : ∀ y ∈ G ++ [x], y.pl ≤ t.pos ∧ y.pl < s.n := by
    intro y hy
    rw [List.mem_append, List.mem_singleton] at hy
    rcases hy with hy | rfl
    · exact h.plc y hy
    · rw [hxp]; exact ⟨Nat.le_refl _, hp⟩
  have flo' : ∀ y ∈ G ++ [x], F ≤ y.pl := by
    intro y hy
    rw [List.mem_append, List.mem_singleton] at hy
    rcases hy with hy | rfl
    · exact h.flo y hy
    · rw [hxp]; exact h.fl
  have bd' : ∀ y ∈ G ++ [x], isBytes y.b ∧ 1 ≤ y.b.length ∧ y.b.length ≤ 56 := by
    intro y hy
    rw [List.mem_append, List.mem_singleton] at hy
    rcases hy with hy | rfl
    · exact h.bd y hy
    · rw [hxb]; exact ⟨hb, h1, h2⟩
  have hin : inSec (G ++ [x]) t.pos = inSec G t.pos ++ [x] := by rw [← hxp]; exact inSec_snoc_eq G x
  have hin2 : ∀ k, k ≠ t.pos → inSec (G ++ [x]) k = inSec G k := fun k hk => inSec_snoc_ne G x k (by rw [hxp]; exact hk)
  obtain ⟨c, hc⟩ := h.sc t.pos h.fl hp
  by_cases hd : doneB s.out = true
  · have hs : s.write t.pos (cutC (flatB (inSec G t.pos ++ [x])) (flatB (inSec G t.pos ++ [x])).length) = s.take.wrote t.pos (cutC (flatB (inSec G t.pos ++ [x])) (flatB (inSec G t.pos ++ [x])).length) := by unfold St.write; rw [if_pos hd]
    rw [hs]
    obtain ⟨c', hc', htop⟩ := hc.take.put ho.take hp x hxs (by omega)
    have hsc : ∀ k, F ≤ k → k < s.n → ∃ c, SecI (s.take.wrote t.pos (cutC (flatB (inSec G t.pos ++ [x])) (flatB (inSec G t.pos ++ [x])).length)) k (inSec (G ++ [x]) k) c := by
      intro k hF hk
      by_cases e : k = t.pos
      · rw [e, hin]; exact ⟨c', hc'⟩
      · rw [hin2 k e]
        obtain ⟨ck, hck⟩ := h.sc k hF hk
        exact hck.take.aside ho.take t.pos hp e _ hWl
    have hA : SvF F (s.take.wrote t.pos (cutC (flatB (inSec G t.pos ++ [x])) (flatB (inSec G t.pos ++ [x])).length)) (t.added b) (G ++ [x]) :=
      ⟨srt', plc', bd', flo', h.fl, hsc, fun _ => by
        show sec _ t.pos = cutC (flatB (inSec (G ++ [x]) t.pos)) (flatB (inSec (G ++ [x]) t.pos)).length ∧ (flatB (inSec (G ++ [x]) t.pos)).length = _
        rw [hin]
        refine ⟨?_, hF⟩
        exact sec_splice _ _ t.pos s.n ho.nl hWl hp⟩
    split
    · exact hA
    · have hL := hA.leave
      exact ⟨hL.srt, hL.plc, hL.bd, hL.flo, hL.fl, hL.sc, hL.hr⟩
  · have hs : s.write t.pos (cutC (flatB (inSec G t.pos ++ [x])) (flatB (inSec G t.pos ++ [x])).length) = s.take := by unfold St.write; rw [if_neg hd]
    have he : ¬ errC s.out = 0 := fun e => hd (done_of_err e)
    rw [hs, if_neg he]
    have hxf' : x.fi = false := by rw [hxf]; simp [he]
    have hsc : ∀ k, F ≤ k → k < s.n → ∃ c, SecI s.take k (inSec (G ++ [x]) k) c := by
      intro k hF hk
      by_cases e : k = t.pos
      · rw [e, hin]; exact ⟨c, hc.take.grow x hxf' hxs (by omega)⟩
      · rw [hin2 k e]
        obtain ⟨ck, hck⟩ := h.sc k hF hk
        exact ⟨ck, hck.take⟩
    refine ⟨srt', fun y hy => ⟨by have := (plc' y hy).1; simp [Sd.leave]; omega, (plc' y hy).2⟩, bd', flo', by have := h.fl; simp [Sd.leave]; omega, hsc, fun hp2 => ?_⟩
    have hp2' : t.pos + 1 < s.n := hp2
    have e : inSec (G ++ [x]) (t.pos + 1) = [] := by
      unfold inSec
      rw [List.filter_eq_nil_iff]
      intro y hy
      have := (plc' y hy).1
      simp; omega
    obtain ⟨c2, hc2⟩ := hsc (t.pos + 1) (by have := h.fl; omega) hp2'
    show sec _ (t.pos + 1) = cutC (flatB (inSec (G ++ [x]) (t.pos + 1))) (flatB (inSec (G ++ [x]) (t.pos + 1))).length ∧ (flatB (inSec (G ++ [x]) (t.pos + 1))).length = 0
    rw [e] at hc2 ⊢
    refine ⟨?_, rfl⟩
    rw [hc2.nw]
    exact cut_nil _ hc2.top

theorem SvF.app {F : Nat} {s : St} {t : Sd} {G : List Tr} (h : SvF F s t G) (ho : s.Ok) (ht : t.Ok s.n) (b : List Int) (hb : isBytes b) : SvF F (appS s t b) (appT s t b) (appG s t b G) := by
  unfold appS appT appG
  by_cases hE : frameE b = 0
  · have hE' : ¬ frameE b ≠ 0 := fun e => e hE
    rw [if_neg hE', if_neg hE', if_neg hE']
    have hl : 1 ≤ b.length ∧ b.length ≤ 56 := by
      unfold frameE at hE
      split at hE
      · cases hE
      · split at hE
        · cases hE
        · omega
    obtain ⟨_, f2, _⟩ := ht.fit b hE
    by_cases hn : s.n ≤ (t.fit b).pos
    · rw [if_pos hn, if_pos hn, if_pos hn]; exact h.fit b
    · rw [if_neg hn, if_neg hn, if_neg hn]
      exact (h.fit b).put ho b hb hl.1 hl.2 (by omega) f2
  · rw [if_pos hE, if_pos hE, if_pos hE]; exact h

/-- The bodies of the sectors ahead of one. -/
def bodK (now : List Int) (k : Nat) : List (List Int) := (openK now k).recs.map Prod.snd

theorem bodK_succ (now : List Int) (k : Nat) : bodK now (k + 1) = bodK now k ++ scanB (sec now k) := by
  simp only [bodK, openK, List.map_append, List.map_map]
  congr 1
  exact List.map_id _

theorem bodK_same {N N' : List Int} : ∀ k, (∀ j, j < k → sec N j = sec N' j) → bodK N k = bodK N' k := by
  intro k
  induction k with
  | zero => intro _; rfl
  | succ k ih =>
    intro h
    rw [bodK_succ, bodK_succ, ih (fun j hj => h j (by omega)), h k (by omega)]

theorem bodies_bodK (s : St) : bodies (openT s) = bodK s.now s.n := rfl

/-- What a disk may hold: each sector from the floor on cut off somewhere behind what is marked. -/
def Poss (f : Tr → Bool) (F : Nat) (s : St) (G : List Tr) (N : List Int) : Prop :=
  ∀ k, F ≤ k → k < s.n → ∃ a, sec N k = cutC (flatB (inSec G k)) a ∧ a ≤ (flatB (inSec G k)).length ∧ Upto f (inSec G k) a

theorem SvF.possC {F : Nat} {s : St} {t : Sd} {G : List Tr} (h : SvF F s t G) (ho : s.Ok) (ch : List Int) : Poss Tr.su F s G (s.crash ch).now := by
  intro k hF hk
  obtain ⟨c, hc⟩ := h.sc k hF hk
  obtain ⟨a, ha, h0, h1⟩ := hc.torn ho hk ch s.since.length (Nat.le_refl _)
  exact ⟨a, ha, Nat.le_trans h1 hc.top, hc.usu.le h0⟩

theorem SvF.possN {F : Nat} {s : St} {t : Sd} {G : List Tr} (h : SvF F s t G) : Poss Tr.su F s G s.now := by
  intro k hF hk
  obtain ⟨c, hc⟩ := h.sc k hF hk
  have h0 := hc.le s.since.length 0 (by omega)
  rw [Nat.zero_add] at h0
  exact ⟨_, hc.nw, hc.top, hc.usu.le h0⟩

theorem Poss.open {F : Nat} {s : St} {t : Sd} {G : List Tr} (h : SvF F s t G) {N : List Int} (hp : Poss Tr.su F s G N) : ∀ k, F ≤ k → k ≤ s.n → ∃ hh, bodK N k = bodK N F ++ hh ∧ Btw hh (G.filter fun x => decide (x.pl < k)) := by
  intro k
  induction k with
  | zero =>
    intro hF _
    have hF0 : F = 0 := by omega
    subst hF0
    have : (G.filter fun x => decide (x.pl < 0)) = [] := by rw [List.filter_eq_nil_iff]; intro x _; simp
    rw [this]
    exact ⟨[], by simp, .nil⟩
  | succ k ih =>
    intro hF hk
    by_cases hFk : F ≤ k
    · obtain ⟨hh, e1, e2⟩ := ih hFk (by omega)
      obtain ⟨a, ha, h1, h2⟩ := hp k hFk (by omega)
      rw [below_split G k h.srt]
      refine ⟨hh ++ scanB (sec N k), by rw [bodK_succ, e1, List.append_assoc], e2.append ?_⟩
      rw [ha]
      unfold cutC
      exact scan_cut _ a _ (fun x hx => h.bd x (List.mem_filter.1 hx).1) h1 h2
    · have hFk' : F = k + 1 := by omega
      subst hFk'
      have : (G.filter fun x => decide (x.pl < k + 1)) = [] := by
        rw [List.filter_eq_nil_iff]
        intro x hx
        have := h.flo x hx
        simp; omega
      rw [this]
      exact ⟨[], by simp, .nil⟩

/-- What is found. -/
theorem Poss.found {F : Nat} {s : St} {t : Sd} {G : List Tr} (h : SvF F s t G) (hF : F ≤ s.n) {N : List Int} (hp : Poss Tr.su F s G N) : ∃ hh, bodK N s.n = bodK N F ++ hh ∧ Btw hh G := by
  obtain ⟨hh, e1, e2⟩ := Poss.open h hp s.n hF (Nat.le_refl _)
  have e : (G.filter fun x => decide (x.pl < s.n)) = G := by
    rw [List.filter_eq_self]
    intro x hx
    have := (h.plc x hx).2
    simpa using this
  rw [e] at e2
  exact ⟨hh, e1, e2⟩

/-- Below the floor all is as it was. -/
structure Old (F : Nat) (N0 : List Int) (s : St) : Prop where
  su : ∀ k, k < F → k < s.n → sec s.sure k = sec N0 k
  nw : ∀ k, k < F → k < s.n → sec s.now k = sec N0 k
  sn : ∀ x ∈ s.since, F ≤ x.1

theorem Old.take {F : Nat} {N0 : List Int} {s : St} (h : Old F N0 s) : Old F N0 s.take := ⟨h.su, h.nw, h.sn⟩
theorem Old.add {F : Nat} {N0 : List Int} {s : St} (h : Old F N0 s) (l : List Int) : Old F N0 (s.add l) := ⟨h.su, h.nw, h.sn⟩
theorem Old.settled {F : Nat} {N0 : List Int} {s : St} (h : Old F N0 s) : Old F N0 s.settled := ⟨h.nw, h.nw, fun x hx => by cases hx⟩

theorem Old.sync {F : Nat} {N0 : List Int} {s : St} (h : Old F N0 s) : Old F N0 s.sync := by
  unfold St.sync
  split
  · exact h.take.settled
  · exact h.take

theorem Old.wrote {F : Nat} {N0 : List Int} {s : St} (h : Old F N0 s) (ho : s.Ok) (k : Nat) (hk : k < s.n) (hF : F ≤ k) (l : List Int) (hl : l.length = 64) : Old F N0 (s.wrote k l) := by
  refine ⟨h.su, fun j hj hj2 => ?_, fun x hx => ?_⟩
  · have := sec_other s.now l k j s.n ho.nl hk (by omega) (by omega)
    exact this.trans (h.nw j hj hj2)
  · have hx' : x ∈ s.since ++ [(k, l)] := hx
    rcases List.mem_append.1 hx' with hx' | hx'
    · exact h.sn x hx'
    · rw [List.mem_singleton.1 hx']; exact hF

theorem Old.app {F : Nat} {N0 : List Int} {s : St} (h : Old F N0 s) (ho : s.Ok) {t : Sd} (ht : t.Ok s.n) (hF : F ≤ t.pos) (b : List Int) : Old F N0 (appS s t b) := by
  unfold appS
  by_cases hE : frameE b ≠ 0
  · rw [if_pos hE]; exact h
  rw [if_neg hE]
  have hE' : frameE b = 0 := by simpa using hE
  obtain ⟨_, f2, _⟩ := ht.fit b hE'
  have hfl := frameB_len b
  have hpos : F ≤ (t.fit b).pos := by
    unfold Sd.fit
    split
    · simp [Sd.leave]; omega
    · exact hF
  split
  · exact h
  · rename_i hn
    have hs := sec_len ho.nl (show (t.fit b).pos < s.n by omega)
    have hW : (withB (sec s.now (t.fit b).pos) (t.fit b).used (frameB b)).length = 64 := withB_len _ _ _ hs (by omega)
    unfold St.write
    split
    · exact h.take.wrote ho.take _ (by show _ < s.n; omega) hpos _ hW
    · exact h.take

theorem Old.torn {F : Nat} {N0 : List Int} {s : St} (h : Old F N0 s) (ho : s.Ok) (ch : List Int) (k : Nat) (hk : k < F) (hkn : k < s.n) : ∀ i, i ≤ s.since.length → sec (Go.Proofs.YtafkkehcacdodaaGreat.torn ch s.sure s.since i) k = sec N0 k := by
  intro i
  induction i with
  | zero => intro _; exact h.su k hk hkn
  | succ i ih =>
    intro hi
    obtain ⟨w1, w2, _⟩ := wr_at ho i (by omega)
    have hln := (torn_len ho ch i (by omega)).1
    have hx := leftN_le ch i
    have hF : F ≤ (s.since.getD i (0, [])).1 := by
      have := h.sn (s.since.getD i (0, [])) (by rw [List.getD_eq_getElem?_getD, List.getElem?_eq_getElem (show i < s.since.length by omega)]; exact List.getElem_mem _)
      exact this
    show sec (splice (Go.Proofs.YtafkkehcacdodaaGreat.torn ch s.sure s.since i) _ _) k = _
    rw [sec_other _ _ _ k s.n hln w1 (by rw [List.length_take]; omega) (by omega)]
    exact ih (by omega)

theorem Old.crash {F : Nat} {N0 : List Int} {s : St} (h : Old F N0 s) (ho : s.Ok) (ch : List Int) (k : Nat) (hk : k < F) (hkn : k < s.n) : sec (s.crash ch).now k = sec N0 k :=
  h.torn ho ch k hk hkn s.since.length (Nat.le_refl _)

theorem open_blank (now : List Int) : ∀ k j, (openK now k).pos ≤ j → j < k → allz (sec now j) = true := by
  intro k
  induction k with
  | zero => intro j _ h; omega
  | succ k ih =>
    intro j h1 h2
    have hp : (openK now (k + 1)).pos = if allz (sec now k) then (openK now k).pos else k + 1 := rfl
    rw [hp] at h1
    split at h1
    · rename_i hz
      by_cases e : j = k
      · rw [e]; exact hz
      · exact ih j h1 (by omega)
    · omega

theorem allz_zeros {l : List Int} (h : allz l = true) : l = zeros l.length := by
  unfold allz at h
  unfold zeros
  rw [List.eq_replicate_iff]
  refine ⟨rfl, fun x hx => ?_⟩
  have := List.all_eq_true.1 h x hx
  simpa using this

/-- Behind an Open nothing of it is tried yet: the floor is the place. -/
theorem SvF.start {s : St} (ho : s.Ok) (hs : s.since = []) (hsn : s.sure = s.now) : SvF (openT s).pos s (openT s) [] ∧ Old (openT s).pos s.now s := by
  have hblank : ∀ k, (openT s).pos ≤ k → k < s.n → sec s.now k = cutC [] 0 := by
    intro k h1 h2
    have := allz_zeros (open_blank s.now s.n k h1 h2)
    rw [sec_len ho.nl h2] at this
    exact this
  have hu := (openT_ok ho).2.2
  refine ⟨⟨.nil, (fun x hx => by cases hx), (fun x hx => by cases hx), (fun x hx => by cases hx), Nat.le_refl _, fun k hF hk => ⟨fun _ => 0, ?_⟩, fun hp => ?_⟩, ⟨fun k _ _ => by rw [hsn], fun k _ _ => rfl, fun x hx => by rw [hs] at hx; cases hx⟩⟩
  · have hb := hblank k hF hk
    refine ⟨by rw [hsn]; exact hb, hb, fun i _ => Nat.le_refl _, Nat.zero_le _, fun i hi => by rw [hs] at hi; simp at hi, fun i _ _ => rfl, fun i x hi => by simp [inSec] at hi, fun i x hi => by simp [inSec] at hi, by simp [inSec, flatB]⟩
  · refine ⟨hblank _ (Nat.le_refl _) hp, ?_⟩
    rw [hu]; rfl

end Go.Proofs.YtafkkehcacdodaaGreat
