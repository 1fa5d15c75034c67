/- Two disks beside one another; Append at whatever bytes; awake. -/
import Derived.Test.YtlgkndebhafliaaM15
import Derived.Test.YtlgkndebhafliaaM12
import Derived.Test.YtlgkndebhafliaaSecRef7
import Derived.Lib.SmallJoins
import Derived.Laws.IdiomStrings
import Derived.Test.YtlgkndebhafliaaM13
import Derived.BigQuiet
set_option maxRecDepth 100000
namespace Go.Proofs.Ytlgkndebhafliaa
open Go.RowKit

theorem append_any8 (w : World) (tag : Nat → Nat) (base o o' : Nat) (ho : o ≠ o') (ho1 : 1 ≤ o) (ho2 : 1 ≤ o') (s : St) (p : PL) (h : PD w tag base o s p) (t : Sd) (q : SL) (D S : Nat) (hD : p.D = D) (hS : q.S = S) (hq : PO w tag base o' D t q) (hbase : base ≤ w.heap.size) (ht : t.Ok s.n) (v : Value) (b : List Int) (hv : Bts w v b) (hvh : b ≠ [] → Held w tag v b)
    (hops : s.ops ≤ 1000000) (hout : s.outs.length ≤ 1000000) (hsin : s.since.length ≤ 1000000) (hrec : t.recs.length ≤ 900000) :
    Calls Try.prog 13 #[.pointer (some ⟨S, 0, none⟩), v] w fun e w' => e = .returned (.int .i64 (appE s t b)) ∧ AppPost w tag base o o' s D t S b w' := by
  subst hD; subst hS
  by_cases hE : frameE b = 0
  · exact append_ok8 w tag base o o' ho ho1 ho2 s p h t q hq hbase ht v b (hvh (fun e => by rw [e] at hE; cases hE)) hE hops hout hsin hrec
  · exact append_no w tag base o o' s p h t q hq v b hv hE

set_option maxHeartbeats 1000000 in
theorem both_ok (w : World) (tag : Nat → Nat) (base o om n : Nat) (N : Int) (hN : N = n) (hbase : base ≤ w.heap.size) (h1 : 1 ≤ n) (h2 : n ≤ 4096) :
    Calls Try.prog 11 #[.int .i64 N] w fun e w' => ∃ p pm tag', e = .returned (.tuple #[.pointer (some ⟨p.D, 0, none⟩), .pointer (some ⟨pm.M, 0, none⟩)]) ∧ PD w' tag' base o (St.new n) p ∧ MD w' tag' base om (St.new n) pm ∧ (∀ k, k < w.heap.size → tag' k = tag k) ∧ Below w.heap.size w w' := by
  subst hN
  have HN := new_ok w tag base o n hbase h1 h2
  go_enter Try.func11, Try.ntmps11
  go_wp2_with (first
    | (go_at_call 36; refine HN.mono ?_; rintro e w1 ⟨p, tag1, rfl, hP, hT, hB⟩; have HR := rnew_ok w1 tag1 base om n (Nat.le_trans hbase hB.size) h1 h2)
    | (go_at_call 37; refine HR.mono ?_; rintro e w2 ⟨pm, tag2, rfl, hM, hT2, hB2⟩))
  go_ret2
  exact ⟨p, pm, tag2, rfl, hP.keep (fun k hk _ => hB2.block k hk) hT2, hM, fun k hk => (hT2 k (Nat.lt_of_lt_of_le hk hB.size)).trans (hT k hk), hB.trans (hB2.mono hB.size)⟩

theorem sec_zeros (n k : Nat) (h : k < n) : sec (zeros (n * 64)) k = zeros 64 := by
  unfold sec zeros
  rw [List.drop_replicate, List.take_replicate]
  congr 1
  omega

theorem openK_new (n : Nat) : ∀ k, k ≤ n → openK (zeros (n * 64)) k = ⟨0, 0, []⟩ := by
  intro k
  induction k with
  | zero => intro _; rfl
  | succ k ih =>
    intro hk
    rw [openK_step, ih (by omega), sec_zeros n k (by omega)]
    rfl

theorem openT_new (n : Nat) : openT (St.new n) = ⟨0, 0, []⟩ := openK_new n n (Nat.le_refl _)

theorem app_a : appE (St.new 2) ⟨0, 0, []⟩ [97] = 0 ∧ appT (St.new 2) ⟨0, 0, []⟩ [97] = ⟨0, 8, [(0, [97])]⟩ := ⟨rfl, rfl⟩

theorem conv8 (w : World) (C : Array Value) (n c g : Nat) (hg : g = w.heap.size) :
    (convert 23 23 (.slice (some ⟨g, 0, none⟩) n c)).run Try.prog (w.alloc (.cells C 5)) = .ok (.slice (some ⟨g, 0, none⟩) n c) (w.alloc (.cells C 5 (C.size, C.size + 1))) :=
  Go.Joins.run_convert_bytes_const_at w 23 5 C n c g hg Try.underlying23 Try.underlying5

theorem held_lit (w : World) (tag : Nat → Nat) (l : List Int) (hb : isBytes l) (hl : l.length ≤ maxLen) (m : Nat × Nat) : Held (w.alloc (.cells (bytesV l).toArray 5 m)) (clip tag w.heap.size) (.slice (some ⟨w.heap.size, 0, none⟩) l.length l.length) l := by
  refine ⟨⟨_, _, w.heap.size, 0, rfl, Nat.le_refl _, hl, hb, .inl rfl, fun i hi => ?_⟩, fun g hg => ?_⟩
  · rw [Nat.zero_add]
    unfold World.cell?
    rw [World.alloc_heap_new]
    simp [List.getElem?_eq_getElem hi]
  · simp [Value.ownBlock] at hg
    subst hg
    exact ⟨by simp [clip], by simp⟩

/-- A row of slices, read. -/
theorem Lst.read {w : World} {base : Nat} {v : Value} {vs : List Value} {ls : List (List Int)} (h : Lst w base v vs ls) (hne : 0 < ls.length) : ∃ B O c, v = .slice (some ⟨B, O, none⟩) ls.length c ∧ ls.length ≤ c ∧ c ≤ maxLen ∧ ∀ i, i < ls.length → w.cell? ⟨B, O + i, none⟩ = some (vs.getD i undef) := by
  rcases h.win.2 with ⟨_, h0⟩ | ⟨B, O, c, cs, e, hb, h2, h3, h4, h5⟩
  · omega
  refine ⟨B, O, c, e, h2, h3, fun i hi => ?_⟩
  have hvl : vs.length = ls.length := by have := h.win.1; omega
  exact hb.range O (ls.length * 1) i (vs.getD i undef) (by rw [h5]; simp [List.getD, List.getElem?_eq_getElem (show i < vs.length by omega)])

set_option maxHeartbeats 4000000 in
theorem awake8_ok (w : World) : Calls Try.prog 9 #[] w fun e w' => e = .returned (.bool true) ∧ Below w.heap.size w w' := by
  have HBo := both_ok w (fun _ => 0) w.heap.size 1 3 2 2 rfl (Nat.le_refl _) (by omega) (by omega)
  have hcv := conv8
  have hbA : isBytes [97] := by intro z hz; simp at hz; omega
  have hok := (openT_ok (St.ok_new (n := 2) (by omega) (by omega))).1
  rw [openT_new] at hok
  have hok' : Sd.Ok ⟨0, 8, [(0, [97])]⟩ 2 := by
    have := (appT_ok (s := St.new 2) hok [97] hbA).1
    rw [app_a.2] at this
    exact this
  go_enter Try.func9, Try.ntmps9
  go_wp2_with (first
    | (go_at_call 11; refine HBo.mono ?_; rintro e w1 ⟨p, pm, tag1, rfl, hP, _, hT, hB1⟩; have HO := open_ok w1 tag1 w.heap.size 1 2 (by omega) _ p hP hB1.size; rw [openT_new] at HO)
    | (go_at_call 12; refine HO.mono ?_; rintro e w2 ⟨q, tag2, rfl, hQ, hT2, hB2⟩))
  have hB02 : Below w.heap.size w w2 := hB1.trans (hB2.mono hB1.size)
  have hB3 : Below w2.heap.size w2 (w2.alloc (.cells (bytesV [97]).toArray 5 (1, 1 + 1))) := below_alloc _ _
  have hP2 : PD w2 tag2 w.heap.size 1 (St.new 2) p := hP.keep (fun k hk _ => hB2.block k hk) hT2
  have HA := append_any8 (w2.alloc (.cells (bytesV [97]).toArray 5 (1, 1 + 1))) (clip tag2 w2.heap.size) w.heap.size 1 2 (by omega) (by omega) (by omega) (St.new 2) p (hP2.clip hB3) ⟨0, 0, []⟩ q p.D q.S rfl rfl (hQ.clip hB3) (Nat.le_trans hB02.size hB3.size) hok _ [97] (held_lit w2 tag2 [97] hbA (by decide) (1, 2)).1 (fun _ => held_lit w2 tag2 [97] hbA (by decide) (1, 2)) (by decide) (by decide) (by decide) (by decide)
  rw [app_a.1] at HA
  have HB03 : Hid (Below w.heap.size w (w2.alloc (.cells (bytesV [97]).toArray 5 (1, 1 + 1)))) := hB02.trans (hB3.mono hB02.size)
  clear hP hQ hP2 hB3 hB1 hB2 hT hT2 HO HBo
  refine HA.mono ?_
  rintro e w4 ⟨rfl, p4, q4, tag4, _, hS4, _, hQ4, hSt4⟩
  rw [app_a.2] at hQ4
  have hB04 : Below w.heap.size w w4 := HB03.out.trans hSt4.below
  have HPl := place_ok w4 tag4 w.heap.size 2 p.D _ q4 hQ4
  rw [hS4] at HPl
  clear HA hSt4
  go_wp2_with (go_at_call 14; refine HPl.mono ?_; rintro e w5 ⟨rfl, hB5⟩; have HAll := all_ok w5 tag4 w.heap.size 2 p.D _ q4 (hQ4.later hB5) 2 hok' (by decide); rw [hS4] at HAll)
  refine HAll.mono ?_
  rintro e w6 ⟨v6, vs6, rfl, hL6, hB6⟩
  have hb1 : bodies ⟨0, 8, [(0, [97])]⟩ = [[97]] := rfl
  rw [hb1] at hL6
  obtain ⟨LB, LO, lc, rfl, hlc, hlm, hcel⟩ := hL6.read (by decide)
  have hc0 := hcel 0 (by decide)
  have hbt := hL6.bts 0 (by decide)
  rw [Nat.add_zero] at hc0
  have hB06 : Below w.heap.size w w6 := hB04.trans ((hB5.trans (hB6.mono hB5.size)).mono hB04.size)
  have HB06 : Hid (Below w.heap.size w w6) := hB06
  generalize vs6.getD 0 undef = u at *
  obtain ⟨ua, uc, ub, uo, huv, hul, hum, _, hua, hus⟩ := hbt
  subst huv
  rcases hua with rfl | hnil
  case inr => cases hnil
  have hu0 := hus 0 (by decide)
  rw [Nat.add_zero] at hu0
  have hu0' : w6.cell? ⟨ub, uo, none⟩ = some (.int .u8 97) := hu0
  have hul' : ([97] : List Int).length = 1 := rfl
  have hl1 : ([[97]] : List (List Int)).length = 1 := rfl
  have hc0' : w6.cell? ⟨LB, LO, none⟩ = some (.slice (some ⟨ub, uo, none⟩) 1 uc) := hc0
  have hlc' : 1 ≤ lc := hlc
  have huc' : 1 ≤ uc := hul
  unfold maxLen at hlm hum
  clear hcel hus hu0 hc0 hL6 hB5 hB6 HPl HAll hQ4 hB04 hB06 hlc hul
  rw [hl1]
  have hcs : (convert 23 9 (.slice (some ⟨ub, uo, none⟩) 1 uc)).run Try.prog w6 = .ok (.string ⟨#[97]⟩) w6 := by
    have := run_convert_bytes_back (P := Try.prog) w6 23 9 5 ⟨ub, uo, none⟩ uc [97] Try.underlying23 Try.underlying5 Try.underlying9 (fun j hj => by
      have : j = 0 := by simpa using hj
      subst this
      rw [add_at, Nat.add_zero]
      exact hu0')
    exact this
  clear hl1 hul' hu0'
  go_wp2
  go_ret
  exact ⟨rfl, HB06.out⟩

end Go.Proofs.Ytlgkndebhafliaa

namespace Go.Proofs.Ytlgkndebhafliaa
open Go.RowKit
attribute [local go_sem ↓] Go.wp_at_zero Go.wp_at_succ

set_option maxHeartbeats 4000000 in
theorem same8_ok (w : World) (base1 base2 : Nat) (v v' : Value) (vs us : List Value) (ls : List (List Int)) (h : Lst w base1 v vs ls) (h' : Lst w base2 v' us ls) :
    Calls Try.prog 19 #[v, v'] w fun e w' => e = .returned (.bool true) ∧ ∃ nq, w' = w.drewN nq := by
  have H1 : Hid (Lst w base1 v vs ls) := h
  have H2 : Hid (Lst w base2 v' us ls) := h'
  obtain ⟨av, cv, rfl⟩ := win_shape h.win
  obtain ⟨au, cu, rfl⟩ := win_shape h'.win
  clear h h'
  go_enter Try.func19, Try.ntmps19
  go_wp2
  go_loopg [5] ls.length (fun gk i wr => ∃ (k nq : Nat), k + gk = ls.length ∧ i = .int .i64 k ∧ wr = w.drewN nq)
  case atStart => exact ⟨0, 0, by omega, rfl, rfl⟩
  case round =>
    obtain ⟨k, nq, hk, rfl, rfl⟩ := hrel
    by_cases hlt : k < ls.length
    case neg =>
      have hge : ¬ (k : Int) < (ls.length : Int) := by omega
      go_wp2
      go_ret
      exact ⟨rfl, nq, rfl⟩
    have hltI : (k : Int) < (ls.length : Int) := by omega
    obtain ⟨B1, O1, d1, e1, g1, g2, g3⟩ := H1.out.read (by omega)
    obtain ⟨B2, O2, d2, e2, f1, f2, f3⟩ := H2.out.read (by omega)
    injection e1 with e1a _ e1c
    injection e2 with e2a _ e2c
    subst e1a; subst e1c; subst e2a; subst e2c
    unfold maxLen at g2 f2
    have c1 := g3 k hlt
    have c2 := f3 k hlt
    have hb1 := H1.out.bts k hlt
    have hb2 := H2.out.bts k hlt
    have HS : ∀ n, Calls Try.prog 15 #[vs.getD k undef, us.getD k undef] ((w.drewN nq).drewN n) fun e w' => e = .returned (.bool true) ∧ ∃ nq', w' = ((w.drewN nq).drewN n).drewN nq' := fun n => by
      rw [World.drewN_drewN]
      have := same_one (w.drewN (nq + n)) _ _ _ _ (hb1.later (below_drewN w _)) (hb2.later (below_drewN w _))
      rwa [show sameB (ls.getD k []) (ls.getD k []) = true by unfold sameB; simp] at this
    obtain ⟨z1, z2, hz, _⟩ := bts_src hb1
    obtain ⟨y1, y2, hy, _⟩ := bts_src hb2
    rw [hz] at c1 HS
    rw [hy] at c2 HS
    clear hz hy hb1 hb2 g3 f3
    generalize (ls.getD k []).length = m at *
    have c1' : (w.drewN nq).cell? ⟨B1, O1 + k, none⟩ = some (.slice z1 m z2) := cell_later (below_drewN w nq) c1
    have c2' : (w.drewN nq).cell? ⟨B2, O2 + k, none⟩ = some (.slice y1 m y2) := cell_later (below_drewN w nq) c2
    obtain ⟨wx, hwx⟩ : ∃ x, x = w.drewN nq := ⟨_, rfl⟩
    rw [← hwx] at c1' c2' HS ⊢
    have HWX : Hid (wx = w.drewN nq) := hwx
    clear hwx c1 c2
    go_wp2_with fail
    go_quiet ((go_at_call 15; refine Calls.quiet_of (HS _)))
    rename_i nq2
    go_wp2
    go_roundg (ls.length - (k + 1))
    case rel => exact ⟨k + 1, _, by omega, by go_num, by rw [HWX.out, World.drewN_drewN]⟩
    case measure => omega

end Go.Proofs.Ytlgkndebhafliaa

namespace Go.Proofs.Ytlgkndebhafliaa
open Go.RowKit

theorem Few.write {s : St} {n q : Nat} (h : Few s n q) (k : Nat) (l : List Int) : Few (s.write k l) n (q + 1) := by
  unfold St.write
  split
  · exact ⟨h.n, Nat.succ_le_succ h.ops, by simp [St.wrote, St.take]; exact h.sin⟩
  · exact h.take

theorem Few.app {s : St} {n q : Nat} (h : Few s n q) (t : Sd) (b : List Int) : Few (appS s t b) n (q + 1) := by
  unfold appS
  split
  · exact h.mono
  · split
    · exact h.mono
    · exact h.write _ _

theorem outs_write (s : St) (k : Nat) (l : List Int) : (s.write k l).outs.length ≤ s.outs.length := by
  unfold St.write
  split
  · exact outs_take s
  · exact outs_take s

theorem outs_app (s : St) (t : Sd) (b : List Int) : (appS s t b).outs.length ≤ s.outs.length := by
  unfold appS
  split
  · exact Nat.le_refl _
  · split
    · exact Nat.le_refl _
    · exact outs_write s _ _

theorem few_new (n q : Nat) : Few (St.new n) n q := ⟨rfl, Nat.zero_le _, Nat.zero_le _⟩

theorem out_nil {s : St} (h : s.outs.length ≤ 0) : s.out = 0 := by
  have : s.outs = [] := List.eq_nil_of_length_eq_zero (by omega)
  unfold St.out; rw [this]; rfl

theorem Held.grow {w w' : World} {tag tag' : Nat → Nat} {v : Value} {l : List Int} (h : Held w tag v l) (hb : Below w.heap.size w w') (ht : ∀ k, k < w.heap.size → tag' k = tag k) : Held w' tag' v l :=
  ⟨h.1.later hb, fun g hg => ⟨by rw [ht g (h.2 g hg).2]; exact (h.2 g hg).1, Nat.lt_of_lt_of_le (h.2 g hg).2 hb.size⟩⟩

theorem held0 {w : World} {v : Value} {l : List Int} (h : Bts w v l) (hl : l ≠ []) : Held w (fun _ => 0) v l := ⟨h, fun g hg => ⟨rfl, bts_lt h hl g hg⟩⟩

end Go.Proofs.Ytlgkndebhafliaa
