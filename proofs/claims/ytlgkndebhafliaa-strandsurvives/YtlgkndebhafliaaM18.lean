/- Two disks beside one another; Append at whatever bytes; awake. -/
import Derived.Test.YtlgkndebhafliaaM13
import Derived.Test.YtlgkndebhafliaaM11
import Derived.Test.YtlgkndebhafliaaSecRef7
import Derived.Lib.SmallJoins
import Derived.Laws.IdiomStrings
set_option maxRecDepth 100000
namespace Go.Proofs.Ytlgkndebhafliaa
open Go.RowKit

theorem append_any8 (w : World) (tag : Nat → Nat) (base o o' : Nat) (ho : o ≠ o') (ho1 : 1 ≤ o) (ho2 : 1 ≤ o') (s : St) (p : PL) (h : PD w tag base o s p) (t : Sd) (q : SL) (D S : Nat) (hD : p.D = D) (hS : q.S = S) (hq : PO w tag base o' D t q) (hbase : base ≤ w.heap.size) (ht : t.Ok s.n) (v : Value) (b : List Int) (hv : Bts w v b) (hvh : b ≠ [] → Held w tag v b)
    (hops : s.ops ≤ 1000000) (hout : s.outs.length ≤ 1000000) (hsin : s.since.length ≤ 1000000) (hrec : t.recs.length ≤ 900000) :
    Calls Try.prog 13 #[.pointer (some ⟨S, 0, none⟩), v] w fun e w' => e = .returned (.int .i64 (appE s t b)) ∧ AppPost w tag base o o' s D t S b w' := by
  subst hD; subst hS
  by_cases hE : frameE b = 0
  · exact append_ok8 w tag base o o' ho ho1 ho2 s p h t q hq hbase ht v b (hvh (fun e => by rw [e] at hE; cases hE)) hE hops hout hsin hrec
  · exact append_no w tag base o o' s p h t q hq v b hv hE

set_option maxHeartbeats 1000000 in
theorem both_ok (w : World) (tag : Nat → Nat) (base o om n : Nat) (N : Int) (hN : N = n) (hbase : base ≤ w.heap.size) (h1 : 1 ≤ n) (h2 : n ≤ 4096) :
    Calls Try.prog 11 #[.int .i64 N] w fun e w' => ∃ p pm tag', e = .returned (.tuple #[.pointer (some ⟨p.D, 0, none⟩), .pointer (some ⟨pm.M, 0, none⟩)]) ∧ PD w' tag' base o (St.new n) p ∧ MD w' tag' base om (St.new n) pm ∧ (∀ k, k < w.heap.size → tag' k = tag k) ∧ Below w.heap.size w w' := by
  subst hN
  have HN := new_ok w tag base o n hbase h1 h2
  go_enter Try.func11, Try.ntmps11
  go_wp2_with (first
    | (go_at_call 36; refine HN.mono ?_; rintro e w1 ⟨p, tag1, rfl, hP, hT, hB⟩; have HR := rnew_ok w1 tag1 base om n (Nat.le_trans hbase hB.size) h1 h2)
    | (go_at_call 37; refine HR.mono ?_; rintro e w2 ⟨pm, tag2, rfl, hM, hT2, hB2⟩))
  go_ret2
  exact ⟨p, pm, tag2, rfl, hP.keep (fun k hk _ => hB2.block k hk) hT2, hM, fun k hk => (hT2 k (Nat.lt_of_lt_of_le hk hB.size)).trans (hT k hk), hB.trans (hB2.mono hB.size)⟩

theorem sec_zeros (n k : Nat) (h : k < n) : sec (zeros (n * 64)) k = zeros 64 := by
  unfold sec zeros
  rw [List.drop_replicate, List.take_replicate]
  congr 1
  omega

theorem openK_new (n : Nat) : ∀ k, k ≤ n → openK (zeros (n * 64)) k = ⟨0, 0, []⟩ := by
  intro k
  induction k with
  | zero => intro _; rfl
  | succ k ih =>
    intro hk
    rw [openK_step, ih (by omega), sec_zeros n k (by omega)]
    rfl

theorem openT_new (n : Nat) : openT (St.new n) = ⟨0, 0, []⟩ := openK_new n n (Nat.le_refl _)

theorem app_a : appE (St.new 2) ⟨0, 0, []⟩ [97] = 0 ∧ appT (St.new 2) ⟨0, 0, []⟩ [97] = ⟨0, 8, [(0, [97])]⟩ := ⟨rfl, rfl⟩

theorem conv8 (w : World) (C : Array Value) (n c g : Nat) (hg : g = w.heap.size) :
    (convert 23 23 (.slice (some ⟨g, 0, none⟩) n c)).run Try.prog (w.alloc (.cells C 5)) = .ok (.slice (some ⟨g, 0, none⟩) n c) (w.alloc (.cells C 5 (C.size, C.size + 1))) :=
  Go.Joins.run_convert_bytes_const_at w 23 5 C n c g hg Try.underlying23 Try.underlying5

theorem held_lit (w : World) (tag : Nat → Nat) (l : List Int) (hb : isBytes l) (hl : l.length ≤ maxLen) (m : Nat × Nat) : Held (w.alloc (.cells (bytesV l).toArray 5 m)) (clip tag w.heap.size) (.slice (some ⟨w.heap.size, 0, none⟩) l.length l.length) l := by
  refine ⟨⟨_, _, w.heap.size, 0, rfl, Nat.le_refl _, hl, hb, .inl rfl, fun i hi => ?_⟩, fun g hg => ?_⟩
  · rw [Nat.zero_add]
    unfold World.cell?
    rw [World.alloc_heap_new]
    simp [List.getElem?_eq_getElem hi]
  · simp [Value.ownBlock] at hg
    subst hg
    exact ⟨by simp [clip], by simp⟩

/-- A row of slices, read. -/
theorem Lst.read {w : World} {base : Nat} {v : Value} {vs : List Value} {ls : List (List Int)} (h : Lst w base v vs ls) (hne : 0 < ls.length) : ∃ B O c, v = .slice (some ⟨B, O, none⟩) ls.length c ∧ ls.length ≤ c ∧ c ≤ maxLen ∧ ∀ i, i < ls.length → w.cell? ⟨B, O + i, none⟩ = some (vs.getD i undef) := by
  rcases h.win.2 with ⟨_, h0⟩ | ⟨B, O, c, cs, e, hb, h2, h3, h4, h5⟩
  · omega
  refine ⟨B, O, c, e, h2, h3, fun i hi => ?_⟩
  have hvl : vs.length = ls.length := by have := h.win.1; omega
  exact hb.range O (ls.length * 1) i (vs.getD i undef) (by rw [h5]; simp [List.getD, List.getElem?_eq_getElem (show i < vs.length by omega)])

set_option maxHeartbeats 4000000 in
theorem awake8_ok (w : World) : Calls Try.prog 9 #[] w fun e w' => e = .returned (.bool true) ∧ Below w.heap.size w w' := by
  have HBo := both_ok w (fun _ => 0) w.heap.size 1 3 2 2 rfl (Nat.le_refl _) (by omega) (by omega)
  have hcv := conv8
  have hbA : isBytes [97] := by intro z hz; simp at hz; omega
  have hok := (openT_ok (St.ok_new (n := 2) (by omega) (by omega))).1
  rw [openT_new] at hok
  have hok' : Sd.Ok ⟨0, 8, [(0, [97])]⟩ 2 := by
    have := (appT_ok (s := St.new 2) hok [97] hbA).1
    rw [app_a.2] at this
    exact this
  go_enter Try.func9, Try.ntmps9
  go_wp2_with (first
    | (go_at_call 11; refine HBo.mono ?_; rintro e w1 ⟨p, pm, tag1, rfl, hP, _, hT, hB1⟩; have HO := open_ok w1 tag1 w.heap.size 1 2 (by omega) _ p hP hB1.size; rw [openT_new] at HO)
    | (go_at_call 12; refine HO.mono ?_; rintro e w2 ⟨q, tag2, rfl, hQ, hT2, hB2⟩))
  have hB02 : Below w.heap.size w w2 := hB1.trans (hB2.mono hB1.size)
  have hB3 : Below w2.heap.size w2 (w2.alloc (.cells (bytesV [97]).toArray 5 (1, 1 + 1))) := below_alloc _ _
  have hP2 : PD w2 tag2 w.heap.size 1 (St.new 2) p := hP.keep (fun k hk _ => hB2.block k hk) hT2
  have HA := append_any8 (w2.alloc (.cells (bytesV [97]).toArray 5 (1, 1 + 1))) (clip tag2 w2.heap.size) w.heap.size 1 2 (by omega) (by omega) (by omega) (St.new 2) p (hP2.clip hB3) ⟨0, 0, []⟩ q p.D q.S rfl rfl (hQ.clip hB3) (Nat.le_trans hB02.size hB3.size) hok _ [97] (held_lit w2 tag2 [97] hbA (by decide) (1, 2)).1 (fun _ => held_lit w2 tag2 [97] hbA (by decide) (1, 2)) (by decide) (by decide) (by decide) (by decide)
  rw [app_a.1] at HA
  have HB03 : Hid (Below w.heap.size w (w2.alloc (.cells (bytesV [97]).toArray 5 (1, 1 + 1)))) := hB02.trans (hB3.mono hB02.size)
  clear hP hQ hP2 hB3 hB1 hB2 hT hT2 HO HBo
  refine HA.mono ?_
  rintro e w4 ⟨rfl, p4, q4, tag4, _, hS4, _, hQ4, hSt4⟩
  rw [app_a.2] at hQ4
  have hB04 : Below w.heap.size w w4 := HB03.out.trans hSt4.below
  have HPl := place_ok w4 tag4 w.heap.size 2 p.D _ q4 hQ4
  rw [hS4] at HPl
  clear HA hSt4
  go_wp2_with (go_at_call 14; refine HPl.mono ?_; rintro e w5 ⟨rfl, hB5⟩; have HAll := all_ok w5 tag4 w.heap.size 2 p.D _ q4 (hQ4.later hB5) 2 hok' (by decide); rw [hS4] at HAll)
  refine HAll.mono ?_
  rintro e w6 ⟨v6, vs6, rfl, hL6, hB6⟩
  have hb1 : bodies ⟨0, 8, [(0, [97])]⟩ = [[97]] := rfl
  rw [hb1] at hL6
  obtain ⟨LB, LO, lc, rfl, hlc, hlm, hcel⟩ := hL6.read (by decide)
  have hc0 := hcel 0 (by decide)
  have hbt := hL6.bts 0 (by decide)
  rw [Nat.add_zero] at hc0
  have hB06 : Below w.heap.size w w6 := hB04.trans ((hB5.trans (hB6.mono hB5.size)).mono hB04.size)
  have HB06 : Hid (Below w.heap.size w w6) := hB06
  generalize vs6.getD 0 undef = u at *
  obtain ⟨ua, uc, ub, uo, huv, hul, hum, _, hua, hus⟩ := hbt
  subst huv
  rcases hua with rfl | hnil
  case inr => cases hnil
  have hu0 := hus 0 (by decide)
  rw [Nat.add_zero] at hu0
  have hu0' : w6.cell? ⟨ub, uo, none⟩ = some (.int .u8 97) := hu0
  have hul' : ([97] : List Int).length = 1 := rfl
  have hl1 : ([[97]] : List (List Int)).length = 1 := rfl
  have hc0' : w6.cell? ⟨LB, LO, none⟩ = some (.slice (some ⟨ub, uo, none⟩) 1 uc) := hc0
  have hlc' : 1 ≤ lc := hlc
  have huc' : 1 ≤ uc := hul
  unfold maxLen at hlm hum
  clear hcel hus hu0 hc0 hL6 hB5 hB6 HPl HAll hQ4 hB04 hB06 hlc hul
  rw [hl1]
  have hcs : (convert 23 9 (.slice (some ⟨ub, uo, none⟩) 1 uc)).run Try.prog w6 = .ok (.string ⟨#[97]⟩) w6 := by
    have := run_convert_bytes_back (P := Try.prog) w6 23 9 5 ⟨ub, uo, none⟩ uc [97] Try.underlying23 Try.underlying5 Try.underlying9 (fun j hj => by
      have : j = 0 := by simpa using hj
      subst this
      rw [add_at, Nat.add_zero]
      exact hu0')
    exact this
  clear hl1 hul' hu0'
  go_wp2
  go_ret
  exact ⟨rfl, HB06.out⟩

end Go.Proofs.Ytlgkndebhafliaa

namespace Go.Proofs.Ytlgkndebhafliaa
open Go.RowKit

/-- A record that was tried: its sector, its body, whether its Append was OK, whether a Sync that was OK stood behind. -/
structure Tr : Type where
  pl : Nat
  b : List Int
  fi : Bool
  su : Bool

def flatB (R : List Tr) : List Int := R.flatMap fun x => frameB x.b
def cutC (F : List Int) (a : Nat) : List Int := F.take a ++ zeros (64 - a)
def Upto (f : Tr → Bool) (R : List Tr) (a : Nat) : Prop := ∀ i x, R[i]? = some x → f x = true → (flatB (R.take (i + 1))).length ≤ a

theorem cut_get (F : List Int) (a i : Nat) (ha : a ≤ F.length) (hi : i < 64) (h64 : F.length ≤ 64) : (cutC F a)[i]? = some (if i < a then F.getD i 0 else 0) := by
  have hl : (F.take a).length = a := by rw [List.length_take]; omega
  unfold cutC
  split
  · rename_i h
    rw [List.getElem?_append_left (by omega), List.getElem?_take, if_pos h, List.getD, List.getElem?_eq_getElem (by omega)]
    rfl
  · rename_i h
    rw [List.getElem?_append_right (by omega), hl, zeros, List.getElem?_replicate, if_pos (by omega)]

theorem cut_len (F : List Int) (a : Nat) (ha : a ≤ F.length) (h64 : F.length ≤ 64) : (cutC F a).length = 64 := by
  simp [cutC, zeros]; omega

theorem cut_torn (F : List Int) (a b x : Nat) (hab : a ≤ b) (hb : b ≤ F.length) (h64 : F.length ≤ 64) (hx : x ≤ 64) :
    (cutC F b).take x ++ (cutC F a).drop x = cutC F (if x ≤ b then max a x else b) := by
  have la := cut_len F a (by omega) h64
  have lb := cut_len F b hb h64
  have hm : (if x ≤ b then max a x else b) ≤ F.length := by split <;> omega
  have lm := cut_len F _ hm h64
  apply List.ext_getElem?
  intro i
  by_cases hi : i < 64
  · rw [cut_get F _ i hm hi h64]
    by_cases hix : i < x
    · rw [List.getElem?_append_left (by rw [List.length_take]; omega), List.getElem?_take, if_pos hix, cut_get F b i hb hi h64]
      congr 1
      by_cases hib : i < b
      · rw [if_pos hib, if_pos (by split <;> omega)]
      · rw [if_neg hib, if_neg (by split <;> omega)]
    · have hlt : ((cutC F b).take x).length = x := by rw [List.length_take]; omega
      rw [List.getElem?_append_right (by omega), hlt, List.getElem?_drop, show x + (i - x) = i by omega, cut_get F a i (by omega) hi h64]
      congr 1
      by_cases hia : i < a
      · rw [if_pos hia, if_pos (by split <;> omega)]
      · rw [if_neg hia, if_neg (by split <;> omega)]
  · rw [List.getElem?_eq_none (by rw [List.length_append, List.length_take, List.length_drop]; omega), List.getElem?_eq_none (by omega)]

theorem cut_more (F f : List Int) (a : Nat) (h : a ≤ F.length) : cutC (F ++ f) a = cutC F a := by
  unfold cutC
  rw [List.take_append_of_le_length h]

/-- Some of a sector's bytes laid anew. -/
theorem sec_over (l b : List Int) (k n : Nat) (hl : l.length = n * 64) (hb : b.length ≤ 64) (hk : k < n) : sec (splice l (k * 64) b) k = b ++ (sec l k).drop b.length := by
  unfold sec splice
  have h1 : (l.take (k * 64)).length = k * 64 := by rw [List.length_take]; omega
  rw [List.append_assoc, List.drop_append, h1, Nat.sub_self, List.drop_zero, List.drop_of_length_le (by omega), List.nil_append,
    List.take_append, List.take_of_length_le hb, List.drop_take, List.drop_drop]

theorem sec_other (l b : List Int) (j k n : Nat) (hl : l.length = n * 64) (hj : j < n) (hb : b.length ≤ 64) (hk : k ≠ j) : sec (splice l (j * 64) b) k = sec l k := by
  unfold sec splice
  apply List.ext_getElem?
  intro i
  rw [List.getElem?_take, List.getElem?_take]
  split
  · rename_i hi
    rw [List.getElem?_drop, List.getElem?_drop]
    have h1 : (l.take (j * 64)).length = j * 64 := by rw [List.length_take]; omega
    by_cases hlt : k < j
    · rw [List.append_assoc, List.getElem?_append_left (by rw [h1]; omega), List.getElem?_take, if_pos (by omega)]
    · rw [List.append_assoc, List.getElem?_append_right (by rw [h1]; omega), List.getElem?_append_right (by rw [h1]; omega), List.getElem?_drop, h1]
      congr 1
      omega
  · rfl

theorem flat_snoc (R : List Tr) (x : Tr) : flatB (R ++ [x]) = flatB R ++ frameB x.b := by simp [flatB]
theorem flat_cons (x : Tr) (R : List Tr) : flatB (x :: R) = frameB x.b ++ flatB R := by simp [flatB]

theorem Upto.le {f : Tr → Bool} {R : List Tr} {a a' : Nat} (h : Upto f R a) (ha : a ≤ a') : Upto f R a' := fun i x hi hx => Nat.le_trans (h i x hi hx) ha

theorem Upto.snoc {f : Tr → Bool} {R : List Tr} {a : Nat} (h : Upto f R a) (x : Tr) (hx : f x = true → (flatB (R ++ [x])).length ≤ a) : Upto f (R ++ [x]) a := by
  intro i y hi hy
  by_cases hlt : i < R.length
  · rw [List.getElem?_append_left hlt] at hi
    rw [List.take_append_of_le_length (by omega)]
    exact h i y hi hy
  · have hlt2 := (List.getElem?_eq_some_iff.1 hi).1
    rw [List.length_append, List.length_singleton] at hlt2
    have : i = R.length := by omega
    subst this
    rw [List.getElem?_append_right (Nat.le_refl _), Nat.sub_self] at hi
    simp only [List.getElem?_cons_zero, Option.some.injEq] at hi
    subst hi
    rw [List.take_of_length_le (by simp)]
    exact hx hy

theorem Upto.all {f : Tr → Bool} {R : List Tr} : Upto f R (flatB R).length := by
  intro i x _ _
  have : flatB R = flatB (R.take (i + 1)) ++ flatB (R.drop (i + 1)) := by
    unfold flatB; rw [← List.flatMap_append, List.take_append_drop]
  rw [this, List.length_append]
  omega

/-- What lies in a sector, certain and since. -/
structure SecI (s : St) (k : Nat) (R : List Tr) (c : Nat → Nat) : Prop where
  sr : sec s.sure k = cutC (flatB R) (c 0)
  nw : sec s.now k = cutC (flatB R) (c s.since.length)
  mono : ∀ i, i < s.since.length → c i ≤ c (i + 1)
  top : c s.since.length ≤ (flatB R).length
  wr : ∀ i, i < s.since.length → (s.since.getD i (0, [])).1 = k → (s.since.getD i (0, [])).2 = cutC (flatB R) (c (i + 1))
  skip : ∀ i, i < s.since.length → (s.since.getD i (0, [])).1 ≠ k → c (i + 1) = c i
  usu : Upto Tr.su R (c 0)
  ufi : Upto Tr.fi R (c s.since.length)
  f64 : (flatB R).length ≤ 64

theorem SecI.le {s : St} {k : Nat} {R : List Tr} {c : Nat → Nat} (h : SecI s k R c) : ∀ m i, i + m ≤ s.since.length → c i ≤ c (i + m) := by
  intro m
  induction m with
  | zero => intro i _; exact Nat.le_refl _
  | succ m ih => intro i hi; exact Nat.le_trans (ih i (by omega)) (h.mono (i + m) (by omega))

theorem SecI.tops {s : St} {k : Nat} {R : List Tr} {c : Nat → Nat} (h : SecI s k R c) (i : Nat) (hi : i ≤ s.since.length) : c i ≤ (flatB R).length := by
  have := h.le (s.since.length - i) i (by omega)
  rw [show i + (s.since.length - i) = s.since.length by omega] at this
  exact Nat.le_trans this h.top

/-- Behind a crash. -/
theorem SecI.torn {s : St} {k : Nat} {R : List Tr} {c : Nat → Nat} (h : SecI s k R c) (ho : s.Ok) (hk : k < s.n) (ch : List Int) : ∀ i, i ≤ s.since.length → ∃ a, sec (torn ch s.sure s.since i) k = cutC (flatB R) a ∧ c 0 ≤ a ∧ a ≤ c i := by
  intro i
  induction i with
  | zero => intro _; exact ⟨c 0, h.sr, Nat.le_refl _, Nat.le_refl _⟩
  | succ i ih =>
    intro hi
    obtain ⟨a, h1, h2, h3⟩ := ih (by omega)
    obtain ⟨w1, w2, _⟩ := wr_at ho i (by omega)
    have hx := leftN_le ch i
    have hln := (torn_len ho ch i (by omega)).1
    have hm := h.mono i (by omega)
    have ht := h.tops (i + 1) hi
    show ∃ a, sec (splice (Go.Proofs.Ytlgkndebhafliaa.torn ch s.sure s.since i) _ _) k = _ ∧ _
    by_cases e : (s.since.getD i (0, [])).1 = k
    · have hw := h.wr i (by omega) e
      rw [e, sec_over _ _ k s.n hln (by rw [List.length_take]; omega) hk, h1, hw]
      have hlt : ((cutC (flatB R) (c (i + 1))).take (leftN ch i)).length = leftN ch i := by rw [List.length_take, cut_len _ _ ht h.f64]; omega
      rw [hlt, cut_torn _ a _ _ (by omega) ht h.f64 hx]
      refine ⟨_, rfl, ?_, ?_⟩
      · split <;> omega
      · split <;> omega
    · rw [sec_other _ _ _ k s.n hln w1 (by rw [List.length_take]; omega) (fun e' => e e'.symm)]
      exact ⟨a, h1, h2, by have := h.skip i (by omega) e; omega⟩

/-- Are records some of those that were tried, in order, all that are sure among them? -/
inductive Btw : List (List Int) → List Tr → Prop
  | nil : Btw [] []
  | skip {h : List (List Int)} {R : List Tr} (x : Tr) : x.su = false → Btw h R → Btw h (x :: R)
  | take {h : List (List Int)} {R : List Tr} (x : Tr) : Btw h R → Btw (x.b :: h) (x :: R)

theorem Btw.append {h h' : List (List Int)} {R R' : List Tr} (a : Btw h R) (b : Btw h' R') : Btw (h ++ h') (R ++ R') := by
  induction a with
  | nil => exact b
  | skip x hx _ ih => exact .skip x hx ih
  | take x _ ih => exact .take x ih

theorem Btw.none {R : List Tr} (h : ∀ x ∈ R, x.su = false) : Btw [] R := by
  induction R with
  | nil => exact .nil
  | cons x R ih => exact .skip x (h x (by simp)) (ih (fun y hy => h y (by simp [hy])))

theorem zeros_get (m i : Nat) : (zeros m).getD i 0 = 0 := by
  simp only [zeros, List.getD, List.getElem?_replicate]
  split <;> rfl

/-- A frame whose end is not there is none. -/
theorem torn_frame (b : List Int) (a m : Nat) (ha : a < b.length + 7) : okB ((frameB b).take a ++ zeros m) = false := by
  have hfl := frameB_len b
  have hl : ((frameB b).take a).length = a := by rw [List.length_take]; omega
  by_cases h0 : a = 0
  · subst h0
    rw [List.take_zero, List.nil_append]
    unfold okB
    rw [decide_eq_false_iff_not]
    rintro ⟨_, e, _⟩
    rw [zeros_get] at e
    cases e
  · by_cases h1' : a = 1
    · subst h1'
      unfold okB
      rw [decide_eq_false_iff_not]
      rintro ⟨_, _, e, _⟩
      rw [getD_app_right _ _ _ (by omega), zeros_get] at e
      omega
    · unfold okB
      rw [decide_eq_false_iff_not]
      rintro ⟨_, _, _, _, _, e, _⟩
      have e1 : ((frameB b).take a ++ zeros m).getD 1 0 = b.length := by
        rw [getD_app_left _ _ _ (by omega), List.getD, List.getElem?_take, if_pos (by omega)]
        rfl
      rw [e1, Int.toNat_natCast, getD_app_right _ _ _ (by omega), zeros_get] at e
      cases e

theorem scan_cut (R : List Tr) : ∀ (a m : Nat), (∀ x ∈ R, isBytes x.b ∧ 1 ≤ x.b.length ∧ x.b.length ≤ 56) → a ≤ (flatB R).length → Upto Tr.su R a → Btw (scanB ((flatB R).take a ++ zeros m)) R := by
  induction R with
  | nil =>
    intro a m _ ha _
    have : a = 0 := by simpa [flatB] using ha
    subst this
    rw [List.take_zero, List.nil_append, scanB_no]
    · exact .nil
    · have := torn_frame [0] 0 m (by decide)
      rwa [List.take_zero, List.nil_append] at this
  | cons x R ih =>
    intro a m hb ha hu
    obtain ⟨x1, x2, x3⟩ := hb x (by simp)
    have hfl := frameB_len x.b
    rw [flat_cons] at ha ⊢
    rw [List.length_append] at ha
    by_cases hx : (frameB x.b).length ≤ a
    · rw [List.take_append, List.take_of_length_le hx, List.append_assoc, scan_frame _ _ x1 x2 x3]
      refine .take x (ih _ m (fun y hy => hb y (by simp [hy])) (by omega) ?_)
      intro i y hi hy
      have := hu (i + 1) y (by simpa using hi) hy
      rw [List.take_succ_cons, flat_cons, List.length_append] at this
      omega
    · rw [List.take_append_of_le_length (by omega), scanB_no (torn_frame _ _ m (by omega))]
      refine Btw.none (fun y hy => ?_)
      by_cases hs : y.su = true
      · obtain ⟨i, hi⟩ := List.getElem?_of_mem hy
        have := hu i y hi hs
        rw [List.take_succ_cons, flat_cons, List.length_append] at this
        omega
      · simpa using hs

end Go.Proofs.Ytlgkndebhafliaa

namespace Go.Proofs.Ytlgkndebhafliaa
open Go.RowKit

section
variable {s : St} {k : Nat} {R : List Tr} {c : Nat → Nat}

/-- A record that was not written. -/
theorem SecI.grow (h : SecI s k R c) (x : Tr) (hf : x.fi = false) (hs : x.su = false) (h64 : (flatB (R ++ [x])).length ≤ 64) : SecI s k (R ++ [x]) c := by
  have hc : ∀ i, i ≤ s.since.length → cutC (flatB (R ++ [x])) (c i) = cutC (flatB R) (c i) := fun i hi => by rw [flat_snoc]; exact cut_more _ _ _ (h.tops i hi)
  refine ⟨?_, ?_, h.mono, ?_, ?_, h.skip, h.usu.snoc x (fun e => by rw [hs] at e; cases e), h.ufi.snoc x (fun e => by rw [hf] at e; cases e), h64⟩
  · rw [hc 0 (Nat.zero_le _)]; exact h.sr
  · rw [hc _ (Nat.le_refl _)]; exact h.nw
  · rw [flat_snoc, List.length_append]; have := h.top; omega
  · intro i hi e; rw [hc (i + 1) hi]; exact h.wr i hi e

theorem since_lt (ws : List (Nat × List Int)) (y : Nat × List Int) (i : Nat) (h : i < ws.length) : (ws ++ [y]).getD i (0, []) = ws.getD i (0, []) := by
  simp only [List.getD, List.getElem?_append_left h]
theorem since_eq (ws : List (Nat × List Int)) (y : Nat × List Int) : (ws ++ [y]).getD ws.length (0, []) = y := by simp [List.getD]

/-- A record that was written. -/
theorem SecI.put (h : SecI s k R c) (ho : s.Ok) (hk : k < s.n) (x : Tr) (hs : x.su = false) (h64 : (flatB (R ++ [x])).length ≤ 64) :
    ∃ c', SecI (s.wrote k (cutC (flatB (R ++ [x])) (flatB (R ++ [x])).length)) k (R ++ [x]) c' ∧ c' (s.since.length + 1) = (flatB (R ++ [x])).length := by
  have hc : ∀ i, i ≤ s.since.length → cutC (flatB (R ++ [x])) (c i) = cutC (flatB R) (c i) := fun i hi => by rw [flat_snoc]; exact cut_more _ _ _ (h.tops i hi)
  have hle : (flatB R).length ≤ (flatB (R ++ [x])).length := by rw [flat_snoc, List.length_append]; omega
  have hw := cut_len (flatB (R ++ [x])) _ (Nat.le_refl _) h64
  generalize hF : flatB (R ++ [x]) = F at *
  have hsl : (s.wrote k (cutC F F.length)).since = s.since ++ [(k, cutC F F.length)] := rfl
  obtain ⟨c', hc1, hc2⟩ : ∃ c' : Nat → Nat, (∀ i, i ≤ s.since.length → c' i = c i) ∧ c' (s.since.length + 1) = F.length := ⟨fun i => if i ≤ s.since.length then c i else F.length, fun i hi => by simp [hi], if_neg (by omega)⟩
  refine ⟨c', ⟨?_, ?_, ?_, ?_, ?_, ?_, ?_, ?_, by rw [hF]; exact h64⟩, hc2⟩
  · rw [hc1 0 (Nat.zero_le _), hF, hc 0 (Nat.zero_le _)]; exact h.sr
  · rw [hsl, List.length_append, List.length_singleton, hc2, hF]
    exact sec_splice _ _ k s.n ho.nl hw hk
  · intro i hi
    rw [hsl, List.length_append, List.length_singleton] at hi
    rw [hc1 i (by omega)]
    by_cases e : i < s.since.length
    · rw [hc1 (i + 1) (by omega)]; exact h.mono i e
    · have : i = s.since.length := by omega
      subst this
      rw [hc2]
      exact Nat.le_trans h.top hle
  · rw [hsl, List.length_append, List.length_singleton, hc2, hF]; exact Nat.le_refl _
  · intro i hi e
    rw [hsl, List.length_append, List.length_singleton] at hi
    rw [hsl] at e ⊢
    by_cases hlt : i < s.since.length
    · rw [since_lt _ _ _ hlt] at e ⊢
      rw [hc1 (i + 1) (by omega), hF, hc (i + 1) (by omega)]
      exact h.wr i hlt e
    · have : i = s.since.length := by omega
      subst this
      rw [since_eq, hc2, hF]
  · intro i hi e
    rw [hsl, List.length_append, List.length_singleton] at hi
    rw [hsl] at e
    by_cases hlt : i < s.since.length
    · rw [since_lt _ _ _ hlt] at e
      rw [hc1 (i + 1) (by omega), hc1 i (by omega)]
      exact h.skip i hlt e
    · have : i = s.since.length := by omega
      subst this
      rw [since_eq] at e
      exact absurd rfl e
  · rw [hc1 0 (Nat.zero_le _)]; exact h.usu.snoc x (fun e => by rw [hs] at e; cases e)
  · rw [hsl, List.length_append, List.length_singleton, hc2, ← hF]; exact Upto.all

/-- Another sector is written. -/
theorem SecI.aside (h : SecI s k R c) (ho : s.Ok) (j : Nat) (hj : j < s.n) (hne : k ≠ j) (l : List Int) (hl : l.length = 64) :
    ∃ c', SecI (s.wrote j l) k R c' := by
  have hsl : (s.wrote j l).since = s.since ++ [(j, l)] := rfl
  obtain ⟨c', hc1, hc2⟩ : ∃ c' : Nat → Nat, (∀ i, i ≤ s.since.length → c' i = c i) ∧ c' (s.since.length + 1) = c s.since.length := ⟨fun i => if i ≤ s.since.length then c i else c s.since.length, fun i hi => by simp [hi], if_neg (by omega)⟩
  refine ⟨c', ⟨?_, ?_, ?_, ?_, ?_, ?_, ?_, ?_, h.f64⟩⟩
  · rw [hc1 0 (Nat.zero_le _)]; exact h.sr
  · rw [hsl, List.length_append, List.length_singleton, hc2, ← h.nw]
    exact sec_other _ _ j k s.n ho.nl hj (by omega) hne
  · intro i hi
    rw [hsl, List.length_append, List.length_singleton] at hi
    rw [hc1 i (by omega)]
    by_cases e : i < s.since.length
    · rw [hc1 (i + 1) (by omega)]; exact h.mono i e
    · have : i = s.since.length := by omega
      subst this
      rw [hc2]; exact Nat.le_refl _
  · rw [hsl, List.length_append, List.length_singleton, hc2]; exact h.top
  · intro i hi e
    rw [hsl, List.length_append, List.length_singleton] at hi
    rw [hsl] at e ⊢
    by_cases hlt : i < s.since.length
    · rw [since_lt _ _ _ hlt] at e ⊢
      rw [hc1 (i + 1) (by omega)]
      exact h.wr i hlt e
    · have : i = s.since.length := by omega
      subst this
      rw [since_eq] at e
      exact absurd e.symm hne
  · intro i hi e
    rw [hsl, List.length_append, List.length_singleton] at hi
    rw [hsl] at e
    by_cases hlt : i < s.since.length
    · rw [since_lt _ _ _ hlt] at e
      rw [hc1 (i + 1) (by omega), hc1 i (by omega)]
      exact h.skip i hlt e
    · have : i = s.since.length := by omega
      subst this
      rw [hc2, hc1 _ (Nat.le_refl _)]
  · rw [hc1 0 (Nat.zero_le _)]; exact h.usu
  · rw [hsl, List.length_append, List.length_singleton, hc2]; exact h.ufi

theorem SecI.take (h : SecI s k R c) : SecI s.take k R c := ⟨h.sr, h.nw, h.mono, h.top, h.wr, h.skip, h.usu, h.ufi, h.f64⟩

theorem SecI.settled (h : SecI s k R c) : SecI s.settled k R (fun _ => c s.since.length) := by
  have h0 := h.le s.since.length 0 (by omega)
  rw [Nat.zero_add] at h0
  exact ⟨h.nw, h.nw, fun i hi => Nat.le_refl _, h.top, fun i hi => by simp [St.settled] at hi, fun i hi _ => rfl, h.usu.le h0, h.ufi, h.f64⟩

end

def Tr.sured (x : Tr) : Tr := ⟨x.pl, x.b, x.fi, x.fi⟩

theorem flat_sured (R : List Tr) : flatB (R.map Tr.sured) = flatB R := by
  unfold flatB; rw [List.flatMap_map]; rfl

theorem SecI.surely {s : St} {k : Nat} {R : List Tr} {c : Nat → Nat} (h : SecI s.settled k R c) : SecI s.settled k (R.map Tr.sured) c := by
  have hu : ∀ (f : Tr → Bool) (a : Nat), Upto (fun x => f x.sured) R a → Upto f (R.map Tr.sured) a := by
    intro f a hu i y hi hy
    rw [List.getElem?_map] at hi
    cases hr : R[i]? with
    | none => rw [hr] at hi; cases hi
    | some x =>
      rw [hr] at hi
      simp only [Option.map_some, Option.some.injEq] at hi
      subst hi
      rw [← List.map_take, flat_sured]
      exact hu i x hr hy
  refine ⟨by rw [flat_sured]; exact h.sr, by rw [flat_sured]; exact h.nw, h.mono, by rw [flat_sured]; exact h.top, by rw [flat_sured]; exact h.wr, h.skip, hu _ _ h.ufi, hu _ _ h.ufi, by rw [flat_sured]; exact h.f64⟩

def inSec (G : List Tr) (k : Nat) : List Tr := G.filter fun x => x.pl == k

/-- What holds of a strand on its disk. -/
structure Sv (s : St) (t : Sd) (G : List Tr) : Prop where
  srt : G.Pairwise (fun x y => x.pl ≤ y.pl)
  plc : ∀ x ∈ G, x.pl ≤ t.pos ∧ x.pl < s.n
  bd : ∀ x ∈ G, isBytes x.b ∧ 1 ≤ x.b.length ∧ x.b.length ≤ 56
  sc : ∀ k, k < s.n → ∃ c, SecI s k (inSec G k) c
  hr : t.pos < s.n → sec s.now t.pos = cutC (flatB (inSec G t.pos)) (flatB (inSec G t.pos)).length ∧ (flatB (inSec G t.pos)).length = t.used

theorem inSec_past {s : St} {t : Sd} {G : List Tr} (h : Sv s t G) (k : Nat) (hk : t.pos < k) : inSec G k = [] := by
  unfold inSec
  rw [List.filter_eq_nil_iff]
  intro x hx
  have := (h.plc x hx).1
  simp; omega

theorem cut_nil (a : Nat) (h : a ≤ ([] : List Int).length) : cutC [] a = cutC [] 0 := by
  have : a = 0 := by simpa using h
  rw [this]

theorem Sv.leave {s : St} {t : Sd} {G : List Tr} (h : Sv s t G) : Sv s t.leave G := by
  refine ⟨h.srt, fun x hx => ⟨by have := (h.plc x hx).1; simp [Sd.leave]; omega, (h.plc x hx).2⟩, h.bd, h.sc, fun hp => ?_⟩
  have e := inSec_past h t.leave.pos (by simp [Sd.leave])
  obtain ⟨c, hc⟩ := h.sc t.leave.pos hp
  rw [e] at hc ⊢
  refine ⟨?_, rfl⟩
  rw [hc.nw]
  exact cut_nil _ hc.top

theorem Sv.fit {s : St} {t : Sd} {G : List Tr} (h : Sv s t G) (b : List Int) : Sv s (t.fit b) G := by
  unfold Sd.fit
  split
  · exact h.leave
  · exact h

theorem Sv.new (n : Nat) : Sv (St.new n) ⟨0, 0, []⟩ [] := by
  refine ⟨.nil, (fun x hx => by cases hx), (fun x hx => by cases hx), fun k hk => ⟨fun _ => 0, ?_⟩, fun hp => ?_⟩
  · have hz : sec (zeros (n * 64)) k = zeros 64 := sec_zeros n k hk
    refine ⟨hz, hz, fun i _ => Nat.le_refl _, Nat.zero_le _, fun i hi => by simp [St.new] at hi, fun i _ _ => rfl, fun i x hi => by simp [inSec] at hi, fun i x hi => by simp [inSec] at hi, by simp [inSec, flatB]⟩
  · exact ⟨sec_zeros n 0 hp, rfl⟩

theorem Sv.add {s : St} {t : Sd} {G : List Tr} (h : Sv s t G) (l : List Int) : Sv (s.add l) t G :=
  ⟨h.srt, h.plc, h.bd, fun k hk => by obtain ⟨c, hc⟩ := h.sc k hk; exact ⟨c, hc.sr, hc.nw, hc.mono, hc.top, hc.wr, hc.skip, hc.usu, hc.ufi, hc.f64⟩, h.hr⟩

theorem Sv.took {s : St} {t : Sd} {G : List Tr} (h : Sv s t G) : Sv s.take t G :=
  ⟨h.srt, h.plc, h.bd, fun k hk => by obtain ⟨c, hc⟩ := h.sc k hk; exact ⟨c, hc.take⟩, h.hr⟩

theorem Sv.settled {s : St} {t : Sd} {G : List Tr} (h : Sv s t G) : Sv s.settled t G :=
  ⟨h.srt, h.plc, h.bd, fun k hk => by obtain ⟨c, hc⟩ := h.sc k hk; exact ⟨_, hc.settled⟩, h.hr⟩

theorem inSec_sured (G : List Tr) (k : Nat) : inSec (G.map Tr.sured) k = (inSec G k).map Tr.sured := by
  unfold inSec; rw [List.filter_map]; rfl

theorem Sv.surely {s : St} {t : Sd} {G : List Tr} (h : Sv s.settled t G) : Sv s.settled t (G.map Tr.sured) := by
  refine ⟨?_, ?_, ?_, fun k hk => ?_, fun hp => ?_⟩
  · rw [List.pairwise_map]; exact h.srt
  · intro x hx
    obtain ⟨y, hy, rfl⟩ := List.mem_map.1 hx
    exact h.plc y hy
  · intro x hx
    obtain ⟨y, hy, rfl⟩ := List.mem_map.1 hx
    exact h.bd y hy
  · obtain ⟨c, hc⟩ := h.sc k hk
    rw [inSec_sured]
    exact ⟨c, hc.surely⟩
  · rw [inSec_sured, flat_sured]; exact h.hr hp

def synG (s : St) (G : List Tr) : List Tr := if errC s.out = 0 then G.map Tr.sured else G

theorem done_of_err {c : Int} (h : errC c = 0) : doneB c = true := by
  unfold errC at h
  unfold doneB
  split at h
  · rename_i e; rw [e]; decide
  · cases h

theorem Sv.sync {s : St} {t : Sd} {G : List Tr} (h : Sv s t G) : Sv s.sync (synT s t) (synG s G) := by
  unfold synG synT
  by_cases e : errC s.out = 0
  · have hs : s.sync = s.take.settled := by unfold St.sync; rw [if_pos (done_of_err e)]
    rw [if_pos e, if_neg (by simp [e]), hs]
    exact h.took.settled.surely
  · rw [if_neg e]
    have hs : Sv s.sync t G := by
      unfold St.sync
      split
      · exact h.took.settled
      · exact h.took
    split
    · exact hs.leave
    · exact hs

/-- What is tried by an Append. -/
def appG (s : St) (t : Sd) (b : List Int) (G : List Tr) : List Tr :=
  if frameE b ≠ 0 then G else if s.n ≤ (t.fit b).pos then G else G ++ [⟨(t.fit b).pos, b, decide (errC s.out = 0), false⟩]

theorem inSec_snoc_eq (G : List Tr) (x : Tr) : inSec (G ++ [x]) x.pl = inSec G x.pl ++ [x] := by simp [inSec]
theorem inSec_snoc_ne (G : List Tr) (x : Tr) (k : Nat) (h : k ≠ x.pl) : inSec (G ++ [x]) k = inSec G k := by
  unfold inSec
  rw [List.filter_append, List.filter_cons_of_neg (by simp; exact fun e => h e.symm), List.filter_nil, List.append_nil]

theorem Sv.put {s : St} {t : Sd} {G : List Tr} (h : Sv s t G) (ho : s.Ok) (b : List Int) (hb : isBytes b) (h1 : 1 ≤ b.length) (h2 : b.length ≤ 56) (hp : t.pos < s.n) (hu : t.used + (b.length + 7) ≤ 64) :
    Sv (s.write t.pos (withB (sec s.now t.pos) t.used (frameB b))) (if errC s.out = 0 then t.added b else t.leave) (G ++ [⟨t.pos, b, decide (errC s.out = 0), false⟩]) := by
  obtain ⟨hr1, hr2⟩ := h.hr hp
  obtain ⟨x, hx⟩ : ∃ x : Tr, x = ⟨t.pos, b, decide (errC s.out = 0), false⟩ := ⟨_, rfl⟩
  rw [← hx]
  have hxp : x.pl = t.pos := by rw [hx]
  have hxb : x.b = b := by rw [hx]
  have hxs : x.su = false := by rw [hx]
  have hxf : x.fi = decide (errC s.out = 0) := by rw [hx]
  clear hx
  have hfl := frameB_len b
  have hF : (flatB (inSec G t.pos ++ [x])).length = t.used + (b.length + 7) := by rw [flat_snoc, List.length_append, hr2, hxb, hfl]
  have hW : withB (sec s.now t.pos) t.used (frameB b) = cutC (flatB (inSec G t.pos ++ [x])) (flatB (inSec G t.pos ++ [x])).length := by
    rw [hF]
    unfold withB
    rw [hr1, flat_snoc, hxb]
    unfold cutC
    rw [List.take_of_length_le (Nat.le_refl _), ← hr2, List.take_left, List.take_of_length_le (by rw [List.length_append, hfl]; omega), hfl, Nat.sub_sub]
  have hWl := cut_len (flatB (inSec G t.pos ++ [x])) _ (Nat.le_refl _) (by omega)
  rw [hW]
  -- the rest of what holds
  have srt' : (G ++ [x]).Pairwise (fun x y => x.pl ≤ y.pl) := by
    rw [List.pairwise_append]
    refine ⟨h.srt, List.pairwise_singleton _ _, fun y hy z hz => ?_⟩
    rw [List.mem_singleton] at hz
    subst hz
    rw [hxp]
    exact (h.plc y hy).1
  have plc' : ∀ y ∈ G ++ [x], y.pl ≤ t.pos ∧ y.pl < s.n := by
    intro y hy
    rw [List.mem_append, List.mem_singleton] at hy
    rcases hy with hy | rfl
    · exact h.plc y hy
    · rw [hxp]; exact ⟨Nat.le_refl _, hp⟩
  have bd' : ∀ y ∈ G ++ [x], isBytes y.b ∧ 1 ≤ y.b.length ∧ y.b.length ≤ 56 := by
    intro y hy
    rw [List.mem_append, List.mem_singleton] at hy
    rcases hy with hy | rfl
    · exact h.bd y hy
    · rw [hxb]; exact ⟨hb, h1, h2⟩
  have hin : inSec (G ++ [x]) t.pos = inSec G t.pos ++ [x] := by rw [← hxp]; exact inSec_snoc_eq G x
  have hin2 : ∀ k, k ≠ t.pos → inSec (G ++ [x]) k = inSec G k := fun k hk => inSec_snoc_ne G x k (by rw [hxp]; exact hk)
  obtain ⟨c, hc⟩ := h.sc t.pos hp
  by_cases hd : doneB s.out = true
  · have hs : s.write t.pos (cutC (flatB (inSec G t.pos ++ [x])) (flatB (inSec G t.pos ++ [x])).length) = s.take.wrote t.pos (cutC (flatB (inSec G t.pos ++ [x])) (flatB (inSec G t.pos ++ [x])).length) := by unfold St.write; rw [if_pos hd]
    rw [hs]
    obtain ⟨c', hc', htop⟩ := hc.take.put ho.take hp x hxs (by omega)
    have hsc : ∀ k, k < s.n → ∃ c, SecI (s.take.wrote t.pos (cutC (flatB (inSec G t.pos ++ [x])) (flatB (inSec G t.pos ++ [x])).length)) k (inSec (G ++ [x]) k) c := by
      intro k hk
      by_cases e : k = t.pos
      · rw [e, hin]; exact ⟨c', hc'⟩
      · rw [hin2 k e]
        obtain ⟨ck, hck⟩ := h.sc k hk
        exact hck.take.aside ho.take t.pos hp e _ hWl
    have hA : Sv (s.take.wrote t.pos (cutC (flatB (inSec G t.pos ++ [x])) (flatB (inSec G t.pos ++ [x])).length)) (t.added b) (G ++ [x]) :=
      ⟨srt', plc', bd', hsc, fun _ => by
        show sec _ t.pos = cutC (flatB (inSec (G ++ [x]) t.pos)) (flatB (inSec (G ++ [x]) t.pos)).length ∧ (flatB (inSec (G ++ [x]) t.pos)).length = _
        rw [hin]
        refine ⟨?_, hF⟩
        exact sec_splice _ _ t.pos s.n ho.nl hWl hp⟩
    split
    · exact hA
    · have hL := hA.leave
      exact ⟨hL.srt, hL.plc, hL.bd, hL.sc, hL.hr⟩
  · have hs : s.write t.pos (cutC (flatB (inSec G t.pos ++ [x])) (flatB (inSec G t.pos ++ [x])).length) = s.take := by unfold St.write; rw [if_neg hd]
    have he : ¬ errC s.out = 0 := fun e => hd (done_of_err e)
    rw [hs, if_neg he]
    have hxf' : x.fi = false := by rw [hxf]; simp [he]
    have hsc : ∀ k, k < s.n → ∃ c, SecI s.take k (inSec (G ++ [x]) k) c := by
      intro k hk
      by_cases e : k = t.pos
      · rw [e, hin]; exact ⟨c, hc.take.grow x hxf' hxs (by omega)⟩
      · rw [hin2 k e]
        obtain ⟨ck, hck⟩ := h.sc k hk
        exact ⟨ck, hck.take⟩
    refine ⟨srt', fun y hy => ⟨by have := (plc' y hy).1; simp [Sd.leave]; omega, (plc' y hy).2⟩, bd', hsc, fun hp2 => ?_⟩
    have hp2' : t.pos + 1 < s.n := hp2
    have e : inSec (G ++ [x]) (t.pos + 1) = [] := by
      unfold inSec
      rw [List.filter_eq_nil_iff]
      intro y hy
      have := (plc' y hy).1
      simp; omega
    obtain ⟨c2, hc2⟩ := hsc (t.pos + 1) hp2'
    show sec _ (t.pos + 1) = cutC (flatB (inSec (G ++ [x]) (t.pos + 1))) (flatB (inSec (G ++ [x]) (t.pos + 1))).length ∧ (flatB (inSec (G ++ [x]) (t.pos + 1))).length = 0
    rw [e] at hc2 ⊢
    refine ⟨?_, rfl⟩
    rw [hc2.nw]
    exact cut_nil _ hc2.top

theorem Sv.app {s : St} {t : Sd} {G : List Tr} (h : Sv s t G) (ho : s.Ok) (ht : t.Ok s.n) (b : List Int) (hb : isBytes b) : Sv (appS s t b) (appT s t b) (appG s t b G) := by
  unfold appS appT appG
  by_cases hE : frameE b = 0
  · have hE' : ¬ frameE b ≠ 0 := fun e => e hE
    rw [if_neg hE', if_neg hE', if_neg hE']
    have hl : 1 ≤ b.length ∧ b.length ≤ 56 := by
      unfold frameE at hE
      split at hE
      · cases hE
      · split at hE
        · cases hE
        · omega
    obtain ⟨_, f2, _⟩ := ht.fit b hE
    by_cases hn : s.n ≤ (t.fit b).pos
    · rw [if_pos hn, if_pos hn, if_pos hn]; exact h.fit b
    · rw [if_neg hn, if_neg hn, if_neg hn]
      exact (h.fit b).put ho b hb hl.1 hl.2 (by omega) f2
  · rw [if_pos hE, if_pos hE, if_pos hE]; exact h

theorem below_split (G : List Tr) (k : Nat) : G.Pairwise (fun x y => x.pl ≤ y.pl) → (G.filter fun x => decide (x.pl < k + 1)) = (G.filter fun x => decide (x.pl < k)) ++ inSec G k := by
  induction G with
  | nil => intro _; rfl
  | cons x G ih =>
    intro h
    rw [List.pairwise_cons] at h
    have hI := ih h.2
    unfold inSec at hI ⊢
    by_cases h1 : x.pl < k
    · rw [List.filter_cons_of_pos (by simp; omega), List.filter_cons_of_pos (by simp; omega), List.filter_cons_of_neg (by simp; omega), hI, List.cons_append]
    · have hn : (G.filter fun x => decide (x.pl < k)) = [] := by
        rw [List.filter_eq_nil_iff]
        intro y hy
        have := h.1 y hy
        simp; omega
      rw [hn, List.nil_append] at hI
      have hx : (List.filter (fun x : Tr => decide (x.pl < k)) (x :: G)) = [] := by rw [List.filter_cons_of_neg (by simp; omega), hn]
      rw [hx, List.nil_append]
      by_cases h2 : x.pl = k
      · rw [List.filter_cons_of_pos (by simp; omega), List.filter_cons_of_pos (by simp; omega), hI]
      · rw [List.filter_cons_of_neg (by simp; omega), List.filter_cons_of_neg (by simp; omega), hI]

theorem Sv.open {s : St} {t : Sd} {G : List Tr} (h : Sv s t G) (ho : s.Ok) (ch : List Int) : ∀ k, k ≤ s.n → Btw ((openK (s.crash ch).now k).recs.map Prod.snd) (G.filter fun x => decide (x.pl < k)) := by
  intro k
  induction k with
  | zero =>
    intro _
    have : (G.filter fun x => decide (x.pl < 0)) = [] := by rw [List.filter_eq_nil_iff]; intro x _; simp
    rw [this]
    exact .nil
  | succ k ih =>
    intro hk
    rw [below_split G k h.srt]
    have hrec : (openK (s.crash ch).now (k + 1)).recs.map Prod.snd = (openK (s.crash ch).now k).recs.map Prod.snd ++ scanB (sec (s.crash ch).now k) := by
      simp only [openK, List.map_append, List.map_map]
      congr 1
      exact List.map_id _
    rw [hrec]
    refine (ih (by omega)).append ?_
    obtain ⟨c, hc⟩ := h.sc k (by omega)
    obtain ⟨a, ha, h0, h1⟩ := hc.torn ho (by omega) ch s.since.length (Nat.le_refl _)
    have hnow : sec (s.crash ch).now k = cutC (flatB (inSec G k)) a := ha
    rw [hnow]
    unfold cutC
    exact scan_cut _ a _ (fun x hx => h.bd x (List.mem_filter.1 hx).1) (Nat.le_trans h1 hc.top) (hc.usu.le h0)

/-- What is found behind a crash. -/
theorem Sv.found {s : St} {t : Sd} {G : List Tr} (h : Sv s t G) (ho : s.Ok) (ch : List Int) : Btw (bodies (openT (s.crash ch))) G := by
  have := h.open ho ch s.n (Nat.le_refl _)
  have e : (G.filter fun x => decide (x.pl < s.n)) = G := by
    rw [List.filter_eq_self]
    intro x hx
    have := (h.plc x hx).2
    simpa using this
  rwa [e] at this

end Go.Proofs.Ytlgkndebhafliaa
