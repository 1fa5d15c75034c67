/- Two disks beside one another; Append at whatever bytes; awake. -/
import Derived.Test.YtlgkndebhafliabM15
import Derived.Test.YtlgkndebhafliabM12
import Derived.Test.YtlgkndebhafliabSecRef7
import Derived.Lib.SmallJoins
import Derived.Laws.IdiomStrings
import Derived.Test.YtlgkndebhafliabM13
import Derived.BigQuiet
import Derived.Deep.Slices
set_option maxRecDepth 100000
namespace Go.Proofs.Ytlgkndebhafliab
open Go.RowKit

theorem append_any8 (w : World) (tag : Nat → Nat) (base o o' : Nat) (ho : o ≠ o') (ho1 : 1 ≤ o) (ho2 : 1 ≤ o') (s : St) (p : PL) (h : PD w tag base o s p) (t : Sd) (q : SL) (D S : Nat) (hD : p.D = D) (hS : q.S = S) (hq : PO w tag base o' D t q) (hbase : base ≤ w.heap.size) (ht : t.Ok s.n) (v : Value) (b : List Int) (hv : Bts w v b) (hvh : b ≠ [] → Held w tag v b)
    (hops : s.ops ≤ 1000000) (hout : s.outs.length ≤ 1000000) (hsin : s.since.length ≤ 1000000) (hrec : t.recs.length ≤ 900000) :
    Calls Try.prog 8 #[.pointer (some ⟨S, 0, none⟩), v] w fun e w' => e = .returned (.int .i64 (appE s t b)) ∧ AppPost w tag base o o' s D t S b w' := by
  subst hD; subst hS
  by_cases hE : frameE b = 0
  · exact append_ok8 w tag base o o' ho ho1 ho2 s p h t q hq hbase ht v b (hvh (fun e => by rw [e] at hE; cases hE)) hE hops hout hsin hrec
  · exact append_no w tag base o o' s p h t q hq v b hv hE

set_option maxHeartbeats 1000000 in
theorem both_ok (w : World) (tag : Nat → Nat) (base o om n : Nat) (N : Int) (hN : N = n) (hbase : base ≤ w.heap.size) (h1 : 1 ≤ n) (h2 : n ≤ 4096) :
    Calls Try.prog 6 #[.int .i64 N] w fun e w' => ∃ p pm tag', e = .returned (.tuple #[.pointer (some ⟨p.D, 0, none⟩), .pointer (some ⟨pm.M, 0, none⟩)]) ∧ PD w' tag' base o (St.new n) p ∧ MD w' tag' base om (St.new n) pm ∧ (∀ k, k < w.heap.size → tag' k = tag k) ∧ Below w.heap.size w w' := by
  subst hN
  have HN := new_ok w tag base o n hbase h1 h2
  go_enter Try.func6, Try.ntmps6
  go_wp2_with (first
    | (go_at_call 21; refine HN.mono ?_; rintro e w1 ⟨p, tag1, rfl, hP, hT, hB⟩; have HR := rnew_ok w1 tag1 base om n (Nat.le_trans hbase hB.size) h1 h2)
    | (go_at_call 22; refine HR.mono ?_; rintro e w2 ⟨pm, tag2, rfl, hM, hT2, hB2⟩))
  go_ret2
  exact ⟨p, pm, tag2, rfl, hP.keep (fun k hk _ => hB2.block k hk) hT2, hM, fun k hk => (hT2 k (Nat.lt_of_lt_of_le hk hB.size)).trans (hT k hk), hB.trans (hB2.mono hB.size)⟩

theorem sec_zeros (n k : Nat) (h : k < n) : sec (zeros (n * 64)) k = zeros 64 := by
  unfold sec zeros
  rw [List.drop_replicate, List.take_replicate]
  congr 1
  omega

theorem openK_new (n : Nat) : ∀ k, k ≤ n → openK (zeros (n * 64)) k = ⟨0, 0, []⟩ := by
  intro k
  induction k with
  | zero => intro _; rfl
  | succ k ih =>
    intro hk
    rw [openK_step, ih (by omega), sec_zeros n k (by omega)]
    rfl

theorem openT_new (n : Nat) : openT (St.new n) = ⟨0, 0, []⟩ := openK_new n n (Nat.le_refl _)

theorem app_a : appE (St.new 2) ⟨0, 0, []⟩ [97] = 0 ∧ appT (St.new 2) ⟨0, 0, []⟩ [97] = ⟨0, 8, [(0, [97])]⟩ := ⟨rfl, rfl⟩

theorem conv8 (w : World) (C : Array Value) (n c g : Nat) (hg : g = w.heap.size) :
    (convert 23 23 (.slice (some ⟨g, 0, none⟩) n c)).run Try.prog (w.alloc (.cells C 5)) = .ok (.slice (some ⟨g, 0, none⟩) n c) (w.alloc (.cells C 5 (C.size, C.size + 1))) :=
  Go.Joins.run_convert_bytes_const_at w 23 5 C n c g hg Try.underlying23 Try.underlying5

theorem held_lit (w : World) (tag : Nat → Nat) (l : List Int) (hb : isBytes l) (hl : l.length ≤ maxLen) (m : Nat × Nat) : Held (w.alloc (.cells (bytesV l).toArray 5 m)) (clip tag w.heap.size) (.slice (some ⟨w.heap.size, 0, none⟩) l.length l.length) l := by
  refine ⟨⟨_, _, w.heap.size, 0, rfl, Nat.le_refl _, hl, hb, .inl rfl, fun i hi => ?_⟩, fun g hg => ?_⟩
  · rw [Nat.zero_add]
    unfold World.cell?
    rw [World.alloc_heap_new]
    simp [List.getElem?_eq_getElem hi]
  · simp [Value.ownBlock] at hg
    subst hg
    exact ⟨by simp [clip], by simp⟩

/-- A row of slices, read. -/
theorem Lst.read {w : World} {base : Nat} {v : Value} {vs : List Value} {ls : List (List Int)} (h : Lst w base v vs ls) (hne : 0 < ls.length) : ∃ B O c, v = .slice (some ⟨B, O, none⟩) ls.length c ∧ ls.length ≤ c ∧ c ≤ maxLen ∧ ∀ i, i < ls.length → w.cell? ⟨B, O + i, none⟩ = some (vs.getD i undef) := by
  rcases h.win.2 with ⟨_, h0⟩ | ⟨B, O, c, cs, e, hb, h2, h3, h4, h5⟩
  · omega
  refine ⟨B, O, c, e, h2, h3, fun i hi => ?_⟩
  have hvl : vs.length = ls.length := by have := h.win.1; omega
  exact hb.range O (ls.length * 1) i (vs.getD i undef) (by rw [h5]; simp [List.getD, List.getElem?_eq_getElem (show i < vs.length by omega)])

set_option maxHeartbeats 4000000 in
theorem awake8_ok (w : World) : Calls Try.prog 4 #[] w fun e w' => e = .returned (.bool true) ∧ Below w.heap.size w w' := by
  have HBo := both_ok w (fun _ => 0) w.heap.size 1 3 2 2 rfl (Nat.le_refl _) (by omega) (by omega)
  have hcv := conv8
  have hbA : isBytes [97] := by intro z hz; simp at hz; omega
  have hok := (openT_ok (St.ok_new (n := 2) (by omega) (by omega))).1
  rw [openT_new] at hok
  have hok' : Sd.Ok ⟨0, 8, [(0, [97])]⟩ 2 := by
    have := (appT_ok (s := St.new 2) hok [97] hbA).1
    rw [app_a.2] at this
    exact this
  go_enter Try.func4, Try.ntmps4
  go_wp2_with (first
    | (go_at_call 6; refine HBo.mono ?_; rintro e w1 ⟨p, pm, tag1, rfl, hP, _, hT, hB1⟩; have HO := open_ok w1 tag1 w.heap.size 1 2 (by omega) _ p hP hB1.size; rw [openT_new] at HO)
    | (go_at_call 7; refine HO.mono ?_; rintro e w2 ⟨q, tag2, rfl, hQ, hT2, hB2⟩))
  have hB02 : Below w.heap.size w w2 := hB1.trans (hB2.mono hB1.size)
  have hB3 : Below w2.heap.size w2 (w2.alloc (.cells (bytesV [97]).toArray 5 (1, 1 + 1))) := below_alloc _ _
  have hP2 : PD w2 tag2 w.heap.size 1 (St.new 2) p := hP.keep (fun k hk _ => hB2.block k hk) hT2
  have HA := append_any8 (w2.alloc (.cells (bytesV [97]).toArray 5 (1, 1 + 1))) (clip tag2 w2.heap.size) w.heap.size 1 2 (by omega) (by omega) (by omega) (St.new 2) p (hP2.clip hB3) ⟨0, 0, []⟩ q p.D q.S rfl rfl (hQ.clip hB3) (Nat.le_trans hB02.size hB3.size) hok _ [97] (held_lit w2 tag2 [97] hbA (by decide) (1, 2)).1 (fun _ => held_lit w2 tag2 [97] hbA (by decide) (1, 2)) (by decide) (by decide) (by decide) (by decide)
  rw [app_a.1] at HA
  have HB03 : Hid (Below w.heap.size w (w2.alloc (.cells (bytesV [97]).toArray 5 (1, 1 + 1)))) := hB02.trans (hB3.mono hB02.size)
  clear hP hQ hP2 hB3 hB1 hB2 hT hT2 HO HBo
  refine HA.mono ?_
  rintro e w4 ⟨rfl, p4, q4, tag4, _, hS4, _, hQ4, hSt4⟩
  rw [app_a.2] at hQ4
  have hB04 : Below w.heap.size w w4 := HB03.out.trans hSt4.below
  have HPl := place_ok w4 tag4 w.heap.size 2 p.D _ q4 hQ4
  rw [hS4] at HPl
  clear HA hSt4
  go_wp2_with (go_at_call 20; refine HPl.mono ?_; rintro e w5 ⟨rfl, hB5⟩; have HAll := all_ok w5 tag4 w.heap.size 2 p.D _ q4 (hQ4.later hB5) 2 hok' (by decide); rw [hS4] at HAll)
  refine HAll.mono ?_
  rintro e w6 ⟨v6, vs6, rfl, hL6, hB6⟩
  have hb1 : bodies ⟨0, 8, [(0, [97])]⟩ = [[97]] := rfl
  rw [hb1] at hL6
  obtain ⟨LB, LO, lc, rfl, hlc, hlm, hcel⟩ := hL6.read (by decide)
  have hc0 := hcel 0 (by decide)
  have hbt := hL6.bts 0 (by decide)
  rw [Nat.add_zero] at hc0
  have hB06 : Below w.heap.size w w6 := hB04.trans ((hB5.trans (hB6.mono hB5.size)).mono hB04.size)
  have HB06 : Hid (Below w.heap.size w w6) := hB06
  generalize vs6.getD 0 undef = u at *
  obtain ⟨ua, uc, ub, uo, huv, hul, hum, _, hua, hus⟩ := hbt
  subst huv
  rcases hua with rfl | hnil
  case inr => cases hnil
  have hu0 := hus 0 (by decide)
  rw [Nat.add_zero] at hu0
  have hu0' : w6.cell? ⟨ub, uo, none⟩ = some (.int .u8 97) := hu0
  have hul' : ([97] : List Int).length = 1 := rfl
  have hl1 : ([[97]] : List (List Int)).length = 1 := rfl
  have hc0' : w6.cell? ⟨LB, LO, none⟩ = some (.slice (some ⟨ub, uo, none⟩) 1 uc) := hc0
  have hlc' : 1 ≤ lc := hlc
  have huc' : 1 ≤ uc := hul
  unfold maxLen at hlm hum
  clear hcel hus hu0 hc0 hL6 hB5 hB6 HPl HAll hQ4 hB04 hB06 hlc hul
  rw [hl1]
  have hcs : (convert 23 9 (.slice (some ⟨ub, uo, none⟩) 1 uc)).run Try.prog w6 = .ok (.string ⟨#[97]⟩) w6 := by
    have := run_convert_bytes_back (P := Try.prog) w6 23 9 5 ⟨ub, uo, none⟩ uc [97] Try.underlying23 Try.underlying5 Try.underlying9 (fun j hj => by
      have : j = 0 := by simpa using hj
      subst this
      rw [add_at, Nat.add_zero]
      exact hu0')
    exact this
  clear hl1 hul' hu0'
  go_wp2
  go_ret
  exact ⟨rfl, HB06.out⟩

end Go.Proofs.Ytlgkndebhafliab

namespace Go.Proofs.Ytlgkndebhafliab
open Go.RowKit
attribute [local go_sem ↓] Go.wp_at_zero Go.wp_at_succ

set_option maxHeartbeats 4000000 in
theorem same8_ok (w : World) (base1 base2 : Nat) (v v' : Value) (vs us : List Value) (ls : List (List Int)) (h : Lst w base1 v vs ls) (h' : Lst w base2 v' us ls) :
    Calls Try.prog 13 #[v, v'] w fun e w' => e = .returned (.bool true) ∧ ∃ nq, w' = w.drewN nq := by
  have H1 : Hid (Lst w base1 v vs ls) := h
  have H2 : Hid (Lst w base2 v' us ls) := h'
  obtain ⟨av, cv, rfl⟩ := win_shape h.win
  obtain ⟨au, cu, rfl⟩ := win_shape h'.win
  clear h h'
  go_enter Try.func13, Try.ntmps13
  go_wp2
  go_loopg [5] ls.length (fun gk i wr => ∃ (k nq : Nat), k + gk = ls.length ∧ i = .int .i64 k ∧ wr = w.drewN nq)
  case atStart => exact ⟨0, 0, by omega, rfl, rfl⟩
  case round =>
    obtain ⟨k, nq, hk, rfl, rfl⟩ := hrel
    by_cases hlt : k < ls.length
    case neg =>
      have hge : ¬ (k : Int) < (ls.length : Int) := by omega
      go_wp2
      go_ret
      exact ⟨rfl, nq, rfl⟩
    have hltI : (k : Int) < (ls.length : Int) := by omega
    obtain ⟨B1, O1, d1, e1, g1, g2, g3⟩ := H1.out.read (by omega)
    obtain ⟨B2, O2, d2, e2, f1, f2, f3⟩ := H2.out.read (by omega)
    injection e1 with e1a _ e1c
    injection e2 with e2a _ e2c
    subst e1a; subst e1c; subst e2a; subst e2c
    unfold maxLen at g2 f2
    have c1 := g3 k hlt
    have c2 := f3 k hlt
    have hb1 := H1.out.bts k hlt
    have hb2 := H2.out.bts k hlt
    have HS : ∀ n, Calls Try.prog 37 #[vs.getD k undef, us.getD k undef] ((w.drewN nq).drewN n) fun e w' => e = .returned (.bool true) ∧ ∃ nq', w' = ((w.drewN nq).drewN n).drewN nq' := fun n => by
      rw [World.drewN_drewN]
      have := same_one (w.drewN (nq + n)) _ _ _ _ (hb1.later (below_drewN w _)) (hb2.later (below_drewN w _))
      rwa [show sameB (ls.getD k []) (ls.getD k []) = true by unfold sameB; simp] at this
    obtain ⟨z1, z2, hz, _⟩ := bts_src hb1
    obtain ⟨y1, y2, hy, _⟩ := bts_src hb2
    rw [hz] at c1 HS
    rw [hy] at c2 HS
    clear hz hy hb1 hb2 g3 f3
    generalize (ls.getD k []).length = m at *
    have c1' : (w.drewN nq).cell? ⟨B1, O1 + k, none⟩ = some (.slice z1 m z2) := cell_later (below_drewN w nq) c1
    have c2' : (w.drewN nq).cell? ⟨B2, O2 + k, none⟩ = some (.slice y1 m y2) := cell_later (below_drewN w nq) c2
    obtain ⟨wx, hwx⟩ : ∃ x, x = w.drewN nq := ⟨_, rfl⟩
    rw [← hwx] at c1' c2' HS ⊢
    have HWX : Hid (wx = w.drewN nq) := hwx
    clear hwx c1 c2
    go_wp2_with fail
    go_quiet ((go_at_call 37; refine Calls.quiet_of (HS _)))
    rename_i nq2
    go_wp2
    go_roundg (ls.length - (k + 1))
    case rel => exact ⟨k + 1, _, by omega, by go_num, by rw [HWX.out, World.drewN_drewN]⟩
    case measure => omega

end Go.Proofs.Ytlgkndebhafliab

namespace Go.Proofs.Ytlgkndebhafliab
open Go.RowKit
attribute [local go_sem ↓] Go.wp_at_zero Go.wp_at_succ

/-- A row of numbers, wherever it lies. -/
def WinI (w : World) (v : Value) (l : List Int) : Prop := Win w 1 v l.length (l.map (Value.int .i64))

theorem OwnI.win {w : World} {base : Nat} {v : Value} {l : List Int} (h : OwnI w base v l) : WinI w v l := win_of_owns h

theorem WinI.later {w w' : World} {v : Value} {l : List Int} (h : WinI w v l) (hb : Below w.heap.size w w') : WinI w' v l := Win.later h hb

theorem WinI.read {w : World} {v : Value} {l : List Int} (h : WinI w v l) (hne : 0 < l.length) : ∃ B O c, v = .slice (some ⟨B, O, none⟩) l.length c ∧ l.length ≤ c ∧ c ≤ maxLen ∧ ∀ i, i < l.length → w.cell? ⟨B, O + i, none⟩ = some (.int .i64 (l.getD i 0)) := by
  rcases h.2 with ⟨_, h0⟩ | ⟨B, O, c, cs, e, hb, h2, h3, h4, h5⟩
  · omega
  refine ⟨B, O, c, e, h2, h3, fun i hi => ?_⟩
  exact hb.range O (l.length * 1) i (.int .i64 (l.getD i 0)) (by rw [h5]; simp [List.getD, List.getElem?_eq_getElem hi])

set_option maxHeartbeats 4000000 in
theorem ints8_ok (w : World) (v v' : Value) (l : List Int) (h : WinI w v l) (h' : WinI w v' l) :
    Calls Try.prog 15 #[v, v'] w fun e w' => e = .returned (.bool true) ∧ ∃ nq, w' = w.drewN nq := by
  have H1 : Hid (WinI w v l) := h
  have H2 : Hid (WinI w v' l) := h'
  obtain ⟨av, cv, rfl⟩ := win_shape h
  obtain ⟨au, cu, rfl⟩ := win_shape h'
  clear h h'
  go_enter Try.func15, Try.ntmps15
  go_wp2
  go_loopg [5] l.length (fun gk i wr => ∃ (k nq : Nat), k + gk = l.length ∧ i = .int .i64 k ∧ wr = w.drewN nq)
  case atStart => exact ⟨0, 0, by omega, rfl, rfl⟩
  case round =>
    obtain ⟨k, nq, hk, rfl, rfl⟩ := hrel
    by_cases hlt : k < l.length
    case neg =>
      have hge : ¬ (k : Int) < (l.length : Int) := by omega
      go_wp2
      go_ret
      exact ⟨rfl, nq, rfl⟩
    have hltI : (k : Int) < (l.length : Int) := by omega
    obtain ⟨B1, O1, d1, e1, g1, g2, g3⟩ := H1.out.read (by omega)
    obtain ⟨B2, O2, d2, e2, f1, f2, f3⟩ := H2.out.read (by omega)
    injection e1 with e1a _ e1c
    injection e2 with e2a _ e2c
    subst e1a; subst e1c; subst e2a; subst e2c
    unfold maxLen at g2 f2
    have c1 := g3 k hlt
    have c2 := f3 k hlt
    have c1' : (w.drewN nq).cell? ⟨B1, O1 + k, none⟩ = some (.int .i64 (l.getD k 0)) := cell_later (below_drewN w nq) c1
    have c2' : (w.drewN nq).cell? ⟨B2, O2 + k, none⟩ = some (.int .i64 (l.getD k 0)) := cell_later (below_drewN w nq) c2
    obtain ⟨wx, hwx⟩ : ∃ x, x = w.drewN nq := ⟨_, rfl⟩
    rw [← hwx] at c1' c2' ⊢
    have HWX : Hid (wx = w.drewN nq) := hwx
    clear hwx c1 c2 g3 f3
    generalize l.getD k 0 = z at *
    go_wp2_with fail
    go_quiet (fail)
    rename_i nq2
    go_wp2
    go_roundg (l.length - (k + 1))
    case rel => exact ⟨k + 1, _, by omega, by go_num, by rw [HWX.out, World.drewN_drewN]⟩
    case measure => omega

theorem app_getD {α : Type} (l m : List α) (d : α) (i : Nat) : (l ++ m).getD i d = if i < l.length then l.getD i d else m.getD (i - l.length) d := by
  split
  · rename_i h; simp only [List.getD, List.getElem?_append_left h]
  · rename_i h; simp only [List.getD, List.getElem?_append_right (Nat.not_lt.1 h)]

/-- A row of slices behind another one. -/
theorem Lst.join {w w1 : World} {base : Nat} {v u : Value} {vs us : List Value} {ls ms : List (List Int)} (h : Lst w base v vs ls) (hB : Below w.heap.size w w1) (hu : Lst w1 w.heap.size u us ms) (hbase : base ≤ w.heap.size) (hn : ls.length + ms.length ≤ 1000000) :
    ∃ v' w3, (Builtin.append_ #[42, 42] 42 #[v, u]).run Try.prog w1 = .ok v' w3 ∧ Lst w3 base v' (vs ++ us) (ls ++ ms) ∧ w1.grownBy w3 v.ownBlock ∧ ∃ a c, v' = .slice a (ls.length + ms.length) c := by
  obtain ⟨i0, hi, hz0, hz1, hz2⟩ := info_parts infoB
  have hL := h.later hB
  obtain ⟨au, cu, rfl⟩ := win_shape hu.win
  have hvl : vs.length = ls.length := by have := h.win.1; omega
  have hul : us.length = ms.length := by have := hu.win.1; omega
  have hsrc : (∃ ad, au = some ad ∧ ∀ j x, us[j]? = some x → w1.cell? (ad.add j) = some x) ∨ ms.length = 0 := by
    by_cases h0 : ms.length = 0
    · exact .inr h0
    · left
      obtain ⟨B, O, c, e, _, _, hc⟩ := hu.read (by omega)
      injection e with ea _ ec
      subst ea
      refine ⟨_, rfl, fun j x hj => ?_⟩
      have hjl := (List.getElem?_eq_some_iff.1 hj).1
      rw [add_at, hc j (by omega)]
      simp [List.getD, hj]
  obtain ⟨v', w3, hr, hw, hgr, hat⟩ := win_append (P := Try.prog) w1 42 42 23 i0 (.slice none 0 0) 1 24 Try.underlying42 hi hz0 hz1 hz2 rfl (by decide) v ls.length vs hL.win
    au ms.length cu us (by omega) hsrc (by
      intro x hx
      obtain ⟨j, hj⟩ := List.getElem?_of_mem hx
      have hjl := (List.getElem?_eq_some_iff.1 hj).1
      have := hu.bts j (by omega)
      rw [List.getD, hj] at this
      exact one_of_bts this) (by unfold maxLen; omega) (by omega)
  have hs3 := hgr.size
  have hs1 := hB.size
  refine ⟨v', w3, hr, ?_, hgr, win_shape hw⟩
  have hkeep : ∀ (y : Value) (l : List Int), Bts w1 y l → (∀ g, y.ownBlock = some g → v.ownBlock ≠ some g) → Bts w3 y l := fun y l hy hne =>
    bts_same hy (fun g hg hlt => hgr.block g hlt (fun e => hne g hg e.symm))
  refine ⟨by rw [List.length_append]; exact hw, ?_, ?_, ?_⟩
  · intro g hg'
    rcases hat with e | e
    · rw [e] at hg'; exact h.blk g hg'
    · rw [e] at hg'; simp at hg'; omega
  · intro i hi
    rw [List.length_append] at hi
    rw [app_getD, app_getD, hvl]
    split
    · rename_i hil
      exact hkeep _ _ (hL.bts i hil) (fun g hg => (h.ent i hil g hg).2.2)
    · rename_i hil
      refine hkeep _ _ (hu.bts (i - ls.length) (by omega)) (fun g hg' e => ?_)
      have := h.win.lt g e
      have := (hu.ent (i - ls.length) (by omega) g hg').1
      omega
  · intro i hi g hg'
    rw [List.length_append] at hi
    rw [app_getD, hvl] at hg'
    split at hg'
    · rename_i hil
      obtain ⟨e1, e2, e3⟩ := h.ent i hil g hg'
      refine ⟨e1, by omega, ?_⟩
      rcases hat with e | e
      · rw [e]; exact e3
      · rw [e]; intro e'; simp at e'; omega
    · rename_i hil
      obtain ⟨e1, e2, e3⟩ := hu.ent (i - ls.length) (by omega) g hg'
      refine ⟨by omega, by omega, ?_⟩
      rcases hat with e | e
      · rw [e]; intro e'; have := h.win.lt g e'; omega
      · rw [e]; intro e'; simp at e'; omega

end Go.Proofs.Ytlgkndebhafliab

namespace Go.Proofs.Ytlgkndebhafliab
open Go.RowKit

theorem Few.write {s : St} {n q : Nat} (h : Few s n q) (k : Nat) (l : List Int) : Few (s.write k l) n (q + 1) := by
  unfold St.write
  split
  · exact ⟨h.n, Nat.succ_le_succ h.ops, by simp [St.wrote, St.take]; exact h.sin⟩
  · exact h.take

theorem Few.app {s : St} {n q : Nat} (h : Few s n q) (t : Sd) (b : List Int) : Few (appS s t b) n (q + 1) := by
  unfold appS
  split
  · exact h.mono
  · split
    · exact h.mono
    · exact h.write _ _

theorem outs_write (s : St) (k : Nat) (l : List Int) : (s.write k l).outs.length ≤ s.outs.length := by
  unfold St.write
  split
  · exact outs_take s
  · exact outs_take s

theorem outs_app (s : St) (t : Sd) (b : List Int) : (appS s t b).outs.length ≤ s.outs.length := by
  unfold appS
  split
  · exact Nat.le_refl _
  · split
    · exact Nat.le_refl _
    · exact outs_write s _ _

theorem few_new (n q : Nat) : Few (St.new n) n q := ⟨rfl, Nat.zero_le _, Nat.zero_le _⟩

theorem out_nil {s : St} (h : s.outs.length ≤ 0) : s.out = 0 := by
  have : s.outs = [] := List.eq_nil_of_length_eq_zero (by omega)
  unfold St.out; rw [this]; rfl

theorem Held.grow {w w' : World} {tag tag' : Nat → Nat} {v : Value} {l : List Int} (h : Held w tag v l) (hb : Below w.heap.size w w') (ht : ∀ k, k < w.heap.size → tag' k = tag k) : Held w' tag' v l :=
  ⟨h.1.later hb, fun g hg => ⟨by rw [ht g (h.2 g hg).2]; exact (h.2 g hg).1, Nat.lt_of_lt_of_le (h.2 g hg).2 hb.size⟩⟩

theorem held0 {w : World} {v : Value} {l : List Int} (h : Bts w v l) (hl : l ≠ []) : Held w (fun _ => 0) v l := ⟨h, fun g hg => ⟨rfl, bts_lt h hl g hg⟩⟩

end Go.Proofs.Ytlgkndebhafliab

namespace Go.Proofs.Ytlgkndebhafliab
open Go.ChangeShapes Go.WideShapes Go.ChangeAt Go.RowKit

/-- A deed in numbers, with its slice. -/
structure De : Type where
  dO : Int
  vb : Value
  b : List Int

def deC (d : De) : List Value := [.int .i64 d.dO, d.vb]

structure De.Ok (w : World) (d : De) : Prop where
  bt : Bts w d.vb d.b
  o1 : -9223372036854775808 ≤ d.dO ∧ d.dO < 9223372036854775808

/-- A slice of deeds. -/
def Dees (w : World) (v : Value) (B O : Nat) (l : List De) : Prop :=
  ∃ (a : Option Addr) (cap : Nat), v = .slice a l.length cap ∧ l.length ≤ cap ∧ cap ≤ maxLen ∧ (a = some ⟨B, O, none⟩ ∨ l = []) ∧ ∀ i (h : i < l.length), l[i].Ok w ∧ w.rangeAt B (O + i * 2) (deC l[i])

def IsDees (w : World) (v : Value) : Prop := ∃ B O l, Dees w v B O l

theorem bts_of_read8 {H : Type} {enc : TypeId × Value → H} {P : Program} {w : World} {base : Nat} {held : Bool} {t e : TypeId} {fuel : Nat} {v : Value} {x : DataW H × List MemPlace}
    (ht : P.underlying t = some (.slice e)) (he : P.underlying e = some (.int .u8)) (hc : P.cellsOf e = 1)
    (h : DataW.trod enc P w base (fun _ => true) held fuel t [v] = some x) : ∃ l, Bts w v l := by
  rcases open_ints ht he hc h with ⟨hcs, _⟩ | ⟨a, len, cap, zs, hcs, _, hl, hm, hz, hx, hcell, hwz⟩
  · simp only [List.cons.injEq, and_true] at hcs
    subst hcs
    exact ⟨[], bts_nil w⟩
  · simp only [List.cons.injEq, and_true] at hcs
    subst hcs
    simp only [if_true] at hz
    have hlen : (zs.take len).length = len := by simp; omega
    refine ⟨zs.take len, ⟨some a, cap, a.block, a.off, by rw [hlen], by omega, hm, ?_, ?_, ?_⟩⟩
    · intro z hz'; exact byte_of_wf (hwz z (List.mem_of_mem_take hz'))
    · by_cases h0 : len = 0
      · right; subst h0; simp
      · left
        obtain ⟨b, off, spot⟩ := a
        have hs : spot = none := by simpa [Addr.add] using World.cell?_spot (hcell 0 (by omega))
        subst hs; rfl
    · intro i hi
      rw [hlen] at hi
      obtain ⟨b, off, spot⟩ := a
      have hs : spot = none := by simpa [Addr.add] using World.cell?_spot (hcell 0 (by omega))
      subst hs
      have hc := hcell i (by omega)
      rw [add_at] at hc
      rw [getD_take _ _ _ hi]
      exact hc

theorem cells38 : Try.prog.cellsOf 3 = 1 := by kernel_rfl

theorem cellsDe : Try.prog.cellsOf 35 = 2 := by kernel_rfl

theorem list2 {α : Type} {l : List α} (h : l.length = 2) : ∃ a b, l = [a, b] := by
  match l, h with
  | [a, b], _ => exact ⟨a, b, rfl⟩

section
variable {H : Type} {enc : TypeId × Value → H} {w : World} {base b0 : Nat} {held : Bool} {r : Reach} {v : Value} {d : DataW H} {ps : List MemPlace}

set_option maxRecDepth 100000 in
theorem dee_of {n : Nat} {cs : List Value} {x : DataW H × List MemPlace} (hf : DataW.trod enc Try.prog w base (fun _ => true) held n 35 cs = some x) : ∃ q : De, cs = deC q ∧ q.Ok w := by
  obtain ⟨xs, m, _, hx, hl, hlen, hfield⟩ := DataW.trod_struct Try.underlying35 hf
  rw [cellsDe] at hl
  obtain ⟨c0, c1, rfl⟩ := list2 hl
  obtain ⟨y0, y1, rfl⟩ := list2 hlen
  have t0 : DataW.trod enc Try.prog w base (fun _ => true) held m 3 [c0] = some y0 := by
    have := hfield 0 _ rfl
    simpa [cells38] using this
  have t1 : DataW.trod enc Try.prog w base (fun _ => true) held m 23 [c1] = some y1 := by
    have := hfield 1 _ rfl
    simpa [cells26] using this
  obtain ⟨z0, e0, _, w0⟩ := DataW.trod_int Try.underlying3 t0
  obtain ⟨l, hb⟩ := bts_of_read8 Try.underlying23 Try.underlying5 cells5 t1
  simp at e0
  subst e0
  exact ⟨⟨z0, c1, l⟩, rfl, hb, i64_of_wf w0⟩

theorem viewDe (hv : Value.okWide Try.prog w r b0 22 v) (h : DataW.Trod enc Try.prog w base (fun _ => true) held 22 v d ps) (_ : ∀ n ∈ d.weights Try.prog 22, n ≤ reachBytes) : IsDees w v := by
  obtain ⟨a0, len0, cap0, rfl⟩ := okWide_slice Try.underlying22 hv
  obtain ⟨fuel, hf⟩ := h
  rcases Go.Deep.open_slice Try.underlying22 hf with ⟨hcs, _⟩ | ⟨a, len, cap, m, n, D, Pl, hcs, _, hl, hm, hmm, _, hrow⟩
  · simp [Value.cells] at hcs
    obtain ⟨rfl, rfl, rfl⟩ := hcs
    exact ⟨0, 0, [], none, 0, rfl, by simp, by decide, .inr rfl, fun i hi => by simp at hi⟩
  · simp [Value.cells] at hcs
    obtain ⟨rfl, rfl, rfl⟩ := hcs
    simp only [if_true] at hmm
    subst hmm
    rw [cellsDe] at hrow
    obtain ⟨b, off, spot⟩ := a
    have hq : ∀ i, i < len0 → ∃ q : De, q.Ok w ∧ ∀ j, j < 2 → w.cell? (((⟨b, off, spot⟩ : Addr).add (i * 2)).add j) = (deC q)[j]? := by
      intro i hi
      obtain ⟨cs', h1, h2⟩ := hrow i (by omega)
      obtain ⟨q, rfl, hq⟩ := dee_of h2
      unfold World.cells? at h1
      split at h1
      case isFalse => cases h1
      exact ⟨q, hq, fun j hj => mapM_some_get h1 j j (by simp [hj])⟩
    have hspot : 0 < len0 → spot = none := fun h0 => by
      obtain ⟨q, _, hget⟩ := hq 0 h0
      have h0' := hget 0 (by omega)
      have h00 : (deC q)[0]? = some (.int .i64 q.dO) := rfl
      rw [h00] at h0'
      simpa [Addr.add] using World.cell?_spot h0'
    haveI : Inhabited De := ⟨⟨0, .slice none 0 0, []⟩⟩
    obtain ⟨f, hf'⟩ := Go.Deep.choose_lt (α := De) (n := len0) (p := fun i q => q.Ok w ∧ ∀ j, j < 2 → w.cell? (((⟨b, off, spot⟩ : Addr).add (i * 2)).add j) = (deC q)[j]?) hq
    refine ⟨b, off, (List.range len0).map f, _, _, by simp; rfl, by simpa using hl, hm, ?_, ?_⟩
    · by_cases h0 : len0 = 0
      · right; subst h0; simp
      · left; rw [hspot (by omega)]
    · intro i hi
      simp at hi
      obtain ⟨h1, h2⟩ := hf' i hi
      have hs := hspot (by omega)
      subst hs
      simp only [List.getElem_map, List.getElem_range]
      refine ⟨h1, fun j u hu => ?_⟩
      have hj : j < 2 := by
        have := (List.getElem?_eq_some_iff.1 hu).1
        simpa [deC] using this
      have := h2 j hj
      rw [Go.Deep.add_add, add_at, ← Nat.add_assoc] at this
      rw [this]; exact hu
end

theorem De.Ok.later {w w' : World} {d : De} (h : d.Ok w) (hb : Below w.heap.size w w') : d.Ok w' := ⟨h.bt.later hb, h.o1⟩

theorem Dees.later {w w' : World} {v : Value} {B O : Nat} {l : List De} (h : Dees w v B O l) (hb : Below w.heap.size w w') : Dees w' v B O l := by
  obtain ⟨a, cap, h1, h2, h3, h4, hd⟩ := h
  exact ⟨a, cap, h1, h2, h3, h4, fun i hi => ⟨(hd i hi).1.later hb, fun j u hu => cell_later hb ((hd i hi).2 j u hu)⟩⟩

theorem Dees.cell {w : World} {v : Value} {B O : Nat} {l : List De} (h : Dees w v B O l) (i : Nat) (hi : i < l.length) : w.cell? ⟨B, O + i * 2, none⟩ = some (.int .i64 l[i].dO) ∧ w.cell? ⟨B, O + i * 2 + 1, none⟩ = some l[i].vb := by
  obtain ⟨a, cap, _, _, _, _, hd⟩ := h
  have := (hd i hi).2
  exact ⟨by have := this 0 _ rfl; rwa [Nat.add_zero] at this, this 1 _ rfl⟩

theorem Dees.ok {w : World} {v : Value} {B O : Nat} {l : List De} (h : Dees w v B O l) (i : Nat) (hi : i < l.length) : l[i].Ok w := by
  obtain ⟨a, cap, _, _, _, _, hd⟩ := h
  exact (hd i hi).1

def sumD (l : List De) (k : Nat) : Nat := ((l.take k).map fun d => d.b.length).sum
def roomD (l : List De) : Bool := decide (l.length ≤ 200 ∧ (∀ d ∈ l, d.b.length ≤ 1000) ∧ sumD l l.length ≤ 20000)

theorem sumD_succ (l : List De) (k : Nat) (h : k < l.length) : sumD l (k + 1) = sumD l k + l[k].b.length := by
  unfold sumD
  rw [List.take_succ_eq_append_getElem h, List.map_append, List.sum_append]
  simp only [List.map_cons, List.map_nil, List.sum_cons, List.sum_nil, Nat.add_zero]

theorem sumD_le (l : List De) (k : Nat) (h : ∀ d ∈ l.take k, d.b.length ≤ 1000) : sumD l k ≤ 1000 * (l.take k).length := by
  unfold sumD
  generalize l.take k = m at *
  induction m with
  | nil => simp
  | cons d m ih =>
    have := ih (fun x hx => h x (by simp [hx]))
    have := h d (by simp)
    simp only [List.map_cons, List.sum_cons, List.length_cons]
    omega

set_option maxHeartbeats 1000000 in
theorem room8_ok (w : World) (v : Value) (B O : Nat) (l : List De) (h : Dees w v B O l) : Calls Try.prog 5 #[v] w fun e w' => e = .returned (.bool (roomD l)) ∧ w' = w := by
  have HD : Hid (Dees w v B O l) := h
  obtain ⟨a, cap, rfl, hl, hm, ha, _⟩ := h
  unfold maxLen at hm
  by_cases h300 : l.length ≤ 200
  · have h300I : ¬ (200 : Int) < (l.length : Int) := by omega
    go_enter Try.func5, Try.ntmps5
    go_wp2
    go_loop [3, 4] (fun n i => ∃ k : Nat, k ≤ l.length ∧ i = .int .i64 k ∧ n = .int .i64 (sumD l k) ∧ ∀ d ∈ l.take k, d.b.length ≤ 1000) (fun _ i => l.length - (intOf i).toNat)
    case atStart => exact ⟨0, Nat.zero_le _, rfl, by simp [sumD], by simp⟩
    case round =>
      obtain ⟨k, hk, rfl, rfl, hall⟩ := hrel
      have hsm := sumD_le l k hall
      have hsm2 : sumD l k ≤ 200000 := by
        have : (l.take k).length ≤ 200 := by simp; omega
        omega
      clear hsm
      by_cases hlt : k < l.length
      · have hltI : (k : Int) < (l.length : Int) := by omega
        rcases ha with rfl | hnil
        case inr => rw [hnil] at hlt; simp at hlt
        obtain ⟨_, c4⟩ := HD.out.cell k hlt
        obtain ⟨ba, bc, hvb, _, hbm, _⟩ := bts_src (HD.out.ok k hlt).bt
        rw [hvb] at c4
        unfold maxLen at hbm
        have HS : Hid (sumD l (k + 1) = sumD l k + l[k].b.length) := sumD_succ l k hlt
        have HA : Hid (∀ d ∈ l.take k, d.b.length ≤ 1000) := hall
        clear hall
        by_cases h1000 : l[k].b.length ≤ 1000
        · have h1I : ¬ (1000 : Int) < (l[k].b.length : Int) := by omega
          have HT : Hid (∀ d ∈ l.take (k + 1), d.b.length ≤ 1000) := by
            intro d hd
            rw [List.take_succ_eq_append_getElem hlt, List.mem_append, List.mem_singleton] at hd
            rcases hd with hd | rfl
            · exact HA.out d hd
            · exact h1000
          clear hvb
          generalize l[k].b.length = q at *
          go_wp2
          go_round
          case rel => exact ⟨k + 1, by omega, by go_num, by rw [HS.out]; go_num, HT.out⟩
          case measure => simp [intOf]; omega
        · have h1I : (1000 : Int) < (l[k].b.length : Int) := by omega
          have HR : Hid (roomD l = false) := by
            show _ = _
            unfold roomD
            rw [decide_eq_false_iff_not]
            rintro ⟨_, h2, _⟩
            have := h2 l[k] (List.getElem_mem hlt)
            omega
          go_wp2
          go_ret
          exact ⟨ret_bool HR.out.symm, rfl⟩
      · have hke : k = l.length := by omega
        subst hke
        have hall' : ∀ d ∈ l, d.b.length ≤ 1000 := by rwa [List.take_length] at hall
        have HR : Hid (roomD l = decide (sumD l l.length ≤ 20000)) := by
          show _ = _
          unfold roomD
          exact decide_eq_decide.2 ⟨fun h => h.2.2, fun h => ⟨h300, hall', h⟩⟩
        clear hall
        go_wp2
        go_ret
        exact ⟨ret_bool (by rw [HR.out]; simp; omega), rfl⟩
  · have h300I : (200 : Int) < (l.length : Int) := by omega
    have HR : Hid (roomD l = false) := by
      show _ = _
      unfold roomD
      rw [decide_eq_false_iff_not]
      rintro ⟨h1, _⟩
      omega
    go_enter Try.func5, Try.ntmps5
    go_wp2
    go_ret
    exact ⟨ret_bool HR.out.symm, rfl⟩

theorem room_few {l : List De} (h : roomD l = true) : l.length ≤ 200 ∧ (∀ d ∈ l, d.b.length ≤ 1000) ∧ sumD l l.length ≤ 20000 := of_decide_eq_true h

theorem sumD_mono (l : List De) (k : Nat) : sumD l k ≤ sumD l l.length := by
  unfold sumD
  rw [List.take_length]
  conv => rhs; rw [← List.take_append_drop k l]
  rw [List.map_append, List.sum_append]
  omega

end Go.Proofs.Ytlgkndebhafliab
