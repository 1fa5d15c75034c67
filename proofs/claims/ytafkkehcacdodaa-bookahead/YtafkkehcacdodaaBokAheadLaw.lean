/- BookAhead: what was granted by an answer OK is certain on the disk: no choice of a crash takes it away. -/
import Derived.Test.YtafkkehcacdodaaM25
import Derived.Test.YtafkkehcacdodaaRows
set_option maxRecDepth 100000
namespace Go.Proofs.Ytafkkehcacdodaa.bookAhead
open Go.ChangeShapes Go.WideShapes Go.ChangeAt Go.RowKit Go.Shelf
attribute [local go_sem ↓] Go.wp_at_zero Go.wp_at_succ

/-- The row of what was granted: in memory that is nobody's. -/
def WantR (w wr : World) (tag : Nat → Nat) (v : Value) (L : List En) : Prop := Win wr 5 v L.length (L.flatMap eL5) ∧ ∀ g, v.ownBlock = some g → tag g = 0 ∧ w.heap.size ≤ g

section
variable {w wr wr' : World} {tag tag' : Nat → Nat} {v : Value} {L : List En}

theorem WantR.new (h : WantR w wr tag v L) (hb : Below wr.heap.size wr wr') : WantR w wr' (clip tag wr.heap.size) v L :=
  ⟨h.1.later hb, fun g hg => by rw [clip_lt _ _ _ (h.1.lt g hg)]; exact h.2 g hg⟩

theorem WantR.step {base lo hi : Nat} (h : WantR w wr tag v L) (hS : StepR tag tag' base lo hi wr wr') (hl : 1 ≤ lo) : WantR w wr' tag' v L :=
  ⟨h.1.same (fun g hg => hS.kept g (h.1.lt g hg) (by rw [(h.2 g hg).1]; omega)), fun g hg => by rw [hS.tags g (h.1.lt g hg)]; exact h.2 g hg⟩

end

theorem run_step0 {w : World} {N D B k : Nat} {m : Bm} {G : List Tr} {wr wr' : World} {tag tag' : Nat → Nat} (h : Run w N D B k m G wr tag) (hS : StepR tag tag' w.heap.size 0 0 wr wr') : Run w N D B k m G wr' tag' :=
  ⟨h.bk.otherR hS (by omega), h.ok, h.sv, h.sf, h.n, h.outs, h.recs, h.L, h.G, fun j hj => by rw [hS.tags j (Nat.lt_of_lt_of_le hj h.below.size)]; exact h.z j hj, h.below.trans hS.below⟩

/-- Between two deeds. -/
def Inv (w : World) (D B k : Nat) (v : Value) (wr : World) : Prop :=
  ∃ m G tag L, Run w 300 D B k m G wr tag ∧ WantR w wr tag v L ∧ Fine L ∧ (L.map bytesE).Sublist (Sures G) ∧ L.length ≤ k

theorem match_step {a b : En} {L M : List En} (h : (a :: L).Sublist (b :: M)) : (sameE b a = true → L.Sublist M) ∧ (sameE b a = false → (a :: L).Sublist M) := by
  constructor
  · intro e
    rw [sameE_iff] at e
    subst e
    cases h with
    | cons _ h => exact (List.sublist_cons_self _ _).trans h
    | cons_cons _ h => exact h
  · intro e
    cases h with
    | cons _ h => exact h
    | cons_cons _ h => rw [(sameE_iff a a).2 rfl] at e; cases e

set_option maxHeartbeats 16000000 in
theorem walk (v0 v1 : Value) (w : World) (V0 : IsDds w v0) (V1 : IsBts w v1) : Calls Try.prog 5 #[v0, v1] w fun e w' => e = .returned (.bool true) ∧ Below w.heap.size w w' := by
  obtain ⟨B0, O, l, hDl⟩ := V0
  have HD : Hid (Dds w v0 B0 O l) := hDl
  obtain ⟨a, cap, rfl, hl, hm, ha, _⟩ := hDl
  obtain ⟨ch, hch, _⟩ := V1
  have HCh : Hid (Bts w v1 ch) := hch
  obtain ⟨a1, cap1, rfl, hl1, hm1, _⟩ := bts_src hch
  clear hch
  unfold maxLen at hm hm1
  go_enter Try.func5, Try.ntmps5
  go_wp2_with (go_at_call 6; refine (awake11_ok _).mono ?_; rintro e w1 ⟨rfl, hB1⟩)
  refine (room11_ok w1 _ B0 O l (HD.out.later hB1)).mono ?_
  rintro e w1' ⟨rfl, hx⟩
  rw [hx]
  clear hx
  by_cases hroom : roomK l = true
  case neg =>
    have hr' : roomK l = false := by simpa using hroom
    rw [hr']
    clear hroom hr'
    go_wp2
    go_ret
    exact ⟨rfl, hB1⟩
  obtain ⟨hl150, hl500⟩ := roomK_few hroom
  have HL5 : Hid (∀ d ∈ l, d.b.length ≤ 500) := hl500
  rw [hroom]
  clear hroom hl500
  by_cases hbig : 500 < ch.length
  · have hbI : (500 : Int) < (ch.length : Int) := by omega
    go_wp2_with fail
    go_ret
    exact ⟨rfl, hB1⟩
  have hbI : ¬ (500 : Int) < (ch.length : Int) := by omega
  go_wp2_with fail
  refine (run_fresh w1 hB1 300 300 rfl (by omega) (by omega)).mono ?_
  rintro e w2 ⟨D, B, tag2, rfl, hR2⟩
  have HI0 : Hid (Inv w D B 0 (.slice none 0 0) w2) := ⟨_, _, tag2, [], hR2, ⟨win_nil _ _, fun g hg => by simp [Value.ownBlock] at hg⟩, .nil, List.nil_sublist _, Nat.le_refl _⟩
  clear hR2 hB1
  go_wp2_with fail
  go_loopg [7, 8] l.length (fun gk v7 i wr => ∃ (k : Nat) (x7 : Value), k + gk = l.length ∧ i = .int .i64 k ∧ x7 = v7 ∧ Inv w D B k x7 wr)
  case atStart => exact ⟨0, _, by omega, rfl, rfl, HI0.out⟩
  case round =>
    obtain ⟨wx, rfl⟩ : ∃ wx, wx = wr := ⟨wr, rfl⟩
    obtain ⟨k, x7, hk, rfl, rfl, m, G, tag, L, hR, hW, hF, hsub, hLk⟩ := hrel
    by_cases hlt : k < l.length
    case neg =>
      have hge : ¬ (k : Int) < (l.length : Int) := by omega
      have hcr := run_crash hR (by omega) 4 _ ch (HCh.out.later hR.below)
      have HW : Hid (Win wx 5 x7 L.length (L.flatMap eL5)) := hW.1
      have HBl : Hid (Below w.heap.size w wx) := hR.below
      have HSub : Hid (L.Sublist (foundE (bodK (m.s.crash ch).now (m.s.crash ch).n))) := by
        obtain ⟨hh, e1, e2⟩ := hR.found ch
        rw [e1]
        have := found_sub (hsub.trans (btw_sures e2))
        rwa [found_bytes hF] at this
      have hbl := hR.below
      clear hR hW hsub hF
      obtain ⟨xa, xc, rfl, hxc1, hxc2⟩ := win_form HW.out
      unfold maxLen at hxc2
      go_wp2_with fail
      refine hcr.mono ?_
      rintro e w4 ⟨p4, tag4, rfl, hP4, _, hB4⟩
      have hRd := read11_ok w4 tag4 w.heap.size 4 _ p4 hP4 p4.D rfl
      clear hcr hP4
      go_wp2_with fail
      refine hRd.mono ?_
      rintro e w5 ⟨v5, rfl, hW5, _, hB5⟩
      generalize foundE (bodK (m.s.crash ch).now (m.s.crash ch).n) = M at *
      have hB45 := hB4.trans (hB5.mono hB4.size)
      have HB05 : Hid (Below w.heap.size w w5) := HBl.out.trans (hB45.mono HBl.out.size)
      obtain ⟨LB, LO, hEL, _⟩ := win_ens (HW.out.later hB45)
      obtain ⟨MB, MO, hEM, _⟩ := win_ens hW5
      obtain ⟨la, lc, hlv, _, _, hla, hLe⟩ := hEL
      cases hlv
      obtain ⟨ma, mc, rfl, hmc1, hmc2, hma, hMe⟩ := hEM
      unfold maxLen at hmc2
      have HLe : Hid (∀ i e, L[i]? = some e → EnAt w5 LB (LO + i * 5) e) := hLe
      have HMe : Hid (∀ i e, M[i]? = some e → EnAt w5 MB (MO + i * 5) e) := hMe
      clear hRd hW5 hB5 hB4 hB45 hLe hMe HW hbl
      go_wp2_with fail
      go_loopg [11, 12] M.length (fun gk kv iv wr2 => ∃ (i j nq : Nat), i + gk = M.length ∧ kv = .int .i64 (j : Int) ∧ iv = .int .i64 (i : Int) ∧ j ≤ L.length ∧ (L.drop j).Sublist (M.drop i) ∧ wr2 = w5.drewN nq)
      case atStart => exact ⟨0, 0, 0, by omega, rfl, rfl, Nat.zero_le _, HSub.out, rfl⟩
      case round =>
        obtain ⟨i, j, nq, hi, rfl, rfl, hj, hs, rfl⟩ := hrel
        have HS : Hid ((L.drop j).Sublist (M.drop i)) := hs
        clear hs
        by_cases hiM : i < M.length
        case neg =>
          have hge2 : ¬ (i : Int) < (M.length : Int) := by omega
          have hjL : j = L.length := by
            have h1 := HS.out
            rw [List.drop_of_length_le (show M.length ≤ i by omega)] at h1
            have h2 := List.eq_nil_of_sublist_nil h1
            have h3 := congrArg List.length h2
            rw [List.length_drop] at h3
            simp at h3
            omega
          subst hjL
          go_wp2
          go_ret
          exact ⟨ret_bool (by simp), HB05.out.trans ((below_drewN10 w5 nq).mono HB05.out.size)⟩
        have hiI : (i : Int) < (M.length : Int) := by omega
        by_cases hjL : j < L.length
        case neg =>
          have hge2 : ¬ (j : Int) < (L.length : Int) := by omega
          have hjL : j = L.length := by omega
          subst hjL
          go_wp2
          go_ret
          exact ⟨ret_bool (by simp), HB05.out.trans ((below_drewN10 w5 nq).mono HB05.out.size)⟩
        have hjI : (j : Int) < (L.length : Int) := by omega
        obtain rfl : xa = some ⟨LB, LO, none⟩ := by
          rcases hla with g | g
          · exact g
          · subst g; simp at hjL
        obtain rfl : ma = some ⟨MB, MO, none⟩ := by
          rcases hma with g | g
          · exact g
          · subst g; simp at hiM
        obtain ⟨x, hx⟩ : ∃ x, L[j]? = some x := ⟨_, List.getElem?_eq_getElem hjL⟩
        obtain ⟨y, hy⟩ : ∃ y, M[i]? = some y := ⟨_, List.getElem?_eq_getElem hiM⟩
        have hdx : L.drop j = x :: L.drop (j + 1) := by
          rw [List.drop_eq_getElem_cons hjL]
          rw [List.getElem?_eq_getElem hjL] at hx
          rw [Option.some.inj hx]
        have hdy : M.drop i = y :: M.drop (i + 1) := by
          rw [List.drop_eq_getElem_cons hiM]
          rw [List.getElem?_eq_getElem hiM] at hy
          rw [Option.some.inj hy]
        have hst : (sameE y x = true → (L.drop (j + 1)).Sublist (M.drop (i + 1))) ∧ (sameE y x = false → (L.drop j).Sublist (M.drop (i + 1))) := by
          have h1 := HS.out
          rw [hdx, hdy] at h1
          have h2 := match_step h1
          rw [hdx]
          exact h2
        have HSt : Hid ((sameE y x = true → (L.drop (j + 1)).Sublist (M.drop (i + 1))) ∧ (sameE y x = false → (L.drop j).Sublist (M.drop (i + 1)))) := hst
        have c1' := enAt_later (HLe.out j x hx) (below_drewN10 w5 nq)
        have c2' := enAt_later (HMe.out i y hy) (below_drewN10 w5 nq)
        clear hx hy hdx hdy hst
        obtain ⟨wy, hwy⟩ : ∃ z, z = w5.drewN nq := ⟨_, rfl⟩
        rw [← hwy] at c1' c2' ⊢
        have HWY : Hid (wy = w5.drewN nq) := hwy
        clear hwy
        have heq := eqE5 y x
        have hgd := guardE5
        generalize sameE y x = S at *
        obtain ⟨x0, x1, x2, x3, x4⟩ := x
        obtain ⟨y0, y1, y2, y3, y4⟩ := y
        obtain ⟨p0, p1, p2, p3, p4'⟩ := c1'
        obtain ⟨q0, q1, q2, q3, q4⟩ := c2'
        simp only at p0 p1 p2 p3 p4' q0 q1 q2 q3 q4 heq
        go_wp2_with fail
        go_quiet (fail)
        rename_i nq2
        cases S with
        | true =>
          go_wp2
          go_roundg (M.length - (i + 1))
          case rel => exact ⟨i + 1, j + 1, _, by omega, by go_num, by go_num, by omega, HSt.out.1 (by simp), by rw [HWY.out, World.drewN_drewN]⟩
          case measure => omega
        | false =>
          go_wp2
          go_roundg (M.length - (i + 1))
          case rel => exact ⟨i + 1, j, _, by omega, rfl, by go_num, by omega, HSt.out.2 (by simp), by rw [HWY.out, World.drewN_drewN]⟩
          case measure => omega
    have hltI : (k : Int) < (l.length : Int) := by omega
    rcases ha with rfl | hnil
    case inr => rw [hnil] at hlt; simp at hlt
    obtain ⟨c0, c1, c2, c3, c4, c5⟩ := (HD.out.later hR.below).cell k hlt
    have hok := (HD.out.ok k hlt)
    have h5 := HL5.out l[k] (List.getElem_mem hlt)
    have HBt : Hid (Bts w l[k].vb l[k].b) := hok.bt
    obtain ⟨va, vc, hvv, _⟩ := bts_src hok.bt
    generalize l[k] = d at *
    obtain ⟨d0, d1, d2, d3, d4, d5, d6⟩ := d
    simp only at c0 c1 c2 c3 c4 c5 hvv h5
    subst hvv
    have hn1 := hok.t1
    have hn2 := hok.s1
    have hn3 := hok.a1
    have hn4 := hok.b1
    have ho := hok.o1
    simp only at hn1 hn2 hn3 hn4 ho HBt
    clear hok
    obtain ⟨W, hW0⟩ : ∃ W, W = wx.alloc (.cells #[.int .i64 d0, .int .i64 d1, .int .u32 d2, .int .u32 d3, .int .i64 d4, .slice va d6.length vc] 41) := ⟨_, rfl⟩
    have hBW : Below wx.heap.size wx W := by rw [hW0]; exact below_alloc _ _
    have HR1 : Hid (Run w 300 D B k m G W (clip tag wx.heap.size)) := hR.new hBW
    have HW1 : Hid (WantR w W (clip tag wx.heap.size) x7 L) := hW.new hBW
    have HFL : Hid (Fine L ∧ (L.map bytesE).Sublist (Sures G)) := ⟨hF, hsub⟩
    have htw : clip tag wx.heap.size wx.heap.size / 16 < 1 := by simp [clip]
    have hWs : wx.heap.size < W.heap.size := by rw [hW0]; simp
    have e0 : W.cell? ⟨wx.heap.size, 0, none⟩ = some (.int .i64 d0) := by rw [hW0]; simp
    have e1 : W.cell? ⟨wx.heap.size, 1, none⟩ = some (.int .i64 d1) := by rw [hW0]; simp
    have e2 : W.cell? ⟨wx.heap.size, 2, none⟩ = some (.int .u32 d2) := by rw [hW0]; simp
    have e3 : W.cell? ⟨wx.heap.size, 3, none⟩ = some (.int .u32 d3) := by rw [hW0]; simp
    have e4 : W.cell? ⟨wx.heap.size, 4, none⟩ = some (.int .i64 d4) := by rw [hW0]; simp
    have HC : Hid (∀ w2 tag2, StepR (clip tag wx.heap.size) tag2 w.heap.size 1 3 W w2 → w2.cell? ⟨wx.heap.size, 0, none⟩ = some (.int .i64 d0) ∧ w2.cell? ⟨wx.heap.size, 1, none⟩ = some (.int .i64 d1) ∧ w2.cell? ⟨wx.heap.size, 2, none⟩ = some (.int .u32 d2) ∧ w2.cell? ⟨wx.heap.size, 3, none⟩ = some (.int .u32 d3) ∧ w2.cell? ⟨wx.heap.size, 4, none⟩ = some (.int .i64 d4)) := fun w2 tag2 h2 =>
      ⟨((stepR_cell h2 hWs htw 0).1).trans e0, ((stepR_cell h2 hWs htw 1).1).trans e1, ((stepR_cell h2 hWs htw 2).1).trans e2, ((stepR_cell h2 hWs htw 3).1).trans e3, ((stepR_cell h2 hWs htw 4).1).trans e4⟩
    obtain ⟨xa, xc, rfl, hxc1, hxc2⟩ := win_form hW.1
    unfold maxLen at hxc2
    have hbx := hR.below
    clear e0 e1 e2 e3 e4 hR hW hF hsub
    by_cases h2 : d0 ≤ 2
    · have hG := run_grant HR1.out (by omega) d1 d2 d3 d4 (en_ok 2 d1 d2 d3 d4 (by omega) (by omega) (by omega) (by omega) (by omega))
      have hgr := putG_grew HR1.out.ok HR1.out.sf ⟨2, d1, d2, d3, d4⟩
      have HGr : Hid (GrewG G (m.putG ⟨2, d1, d2, d3, d4⟩ G) 2 ∧ (m.putE ⟨2, d1, d2, d3, d4⟩ = 0 → (Sures G ++ [bytesE ⟨2, d1, d2, d3, d4⟩]).Sublist (Sures (m.putG ⟨2, d1, d2, d3, d4⟩ G)))) := hgr
      have HMy : Hid (m.putE ⟨2, d1, d2, d3, d4⟩ = 0 → En.May ⟨2, d1, d2, d3, d4⟩) := fun hz => by
        rcases put_ready m ⟨2, d1, d2, d3, d4⟩ with ⟨p1, p2, _⟩ | ⟨_, p2, _⟩
        · rw [p2] at hz; exact absurd hz p1
        · exact checkE_zero p2
      rw [hW0] at hG
      clear hgr hBW
      generalize m.putE ⟨2, d1, d2, d3, d4⟩ = X at *
      generalize m.putG ⟨2, d1, d2, d3, d4⟩ G = G' at *
      generalize m.put ⟨2, d1, d2, d3, d4⟩ = m' at *
      go_wp2_with fail
      refine (by exact hG : Calls _ _ _ _ _).mono ?_
      rintro e w6 ⟨rfl, tag6, hS6, hR6⟩
      rw [← hW0] at hS6
      obtain ⟨c0, c1, c2, c3, c4⟩ := HC.out w6 tag6 hS6
      have hW6 := HW1.out.step hS6 (Nat.le_refl _)
      clear hG hS6
      by_cases hX : X = 0
      · subst hX
        have hba := below_alloc w6 (.cells (enC ⟨2, d1, d2, d3, d4⟩) 37)
        have hR7 := hR6.new hba
        have hW7 := hW6.new hba
        have hwin : Win (w6.alloc (.cells (enC ⟨2, d1, d2, d3, d4⟩) 37)) 5 (.slice (some ⟨w6.heap.size, 0, none⟩) 1 1) [(⟨2, d1, d2, d3, d4⟩ : En)].length ([(⟨2, d1, d2, d3, d4⟩ : En)].flatMap eL5) := by
          rw [List.flatMap_cons, List.flatMap_nil, List.append_nil]
          exact win_one w6 (enC ⟨2, d1, d2, d3, d4⟩) 37 rfl
        obtain ⟨v8, w8, tag8, hr8, hw8, hs8, ht8, _⟩ := append_own9 (o := 0) (T := 0) hW7.1 hW7.2 rfl (Nat.le_trans hR6.below.size hba.size) _ [(⟨2, d1, d2, d3, d4⟩ : En)] hwin (by simp; omega)
        have HI8 : Hid (Inv w D B (k + 1) v8 w8) := by
          refine ⟨m', G', tag8, L ++ [⟨2, d1, d2, d3, d4⟩], run_step0 hR7 (hs8.range (Nat.le_refl _) (Nat.le_refl _)), ⟨hw8, ht8⟩, HFL.out.1.app (.one (HMy.out rfl) (en_ok 2 d1 d2 d3 d4 (by omega) (by omega) (by omega) (by omega) (by omega))), ?_, by simp; omega⟩
          rw [List.map_append]
          exact (HFL.out.2.append (List.Sublist.refl _)).trans (HGr.out.2 rfl)
        obtain ⟨a8, c8, rfl, _⟩ := win_form hw8
        have hl1 : (L ++ [(⟨2, d1, d2, d3, d4⟩ : En)]).length = L.length + 1 := by simp
        rw [hl1] at HI8 hr8
        clear hR6 hW6 hR7 hW7 hwin hw8 hs8 ht8 hba
        go_wp2_with (at_builtin; refine wpl_append_run rfl _ _ 32 rfl _ _ rfl rfl (by exact hr8) ?_)
        go_roundg (l.length - (k + 1))
        case rel => exact ⟨k + 1, _, by omega, by go_num, rfl, HI8.out⟩
        case measure => omega
      · have HI8 : Hid (Inv w D B (k + 1) (.slice xa L.length xc) w6) := ⟨m', G', tag6, L, hR6, hW6, HFL.out.1, HFL.out.2.trans HGr.out.1.su, by omega⟩
        have hX' : (X == 0) = false := by simpa using hX
        clear hR6 hW6 hX
        go_wp2
        go_roundg (l.length - (k + 1))
        case rel => exact ⟨k + 1, _, by omega, by go_num, rfl, HI8.out⟩
        case measure => omega
    have h2I : ¬ d0 ≤ 2 := h2
    by_cases h4 : d0 ≤ 4
    · have hG := run_release HR1.out (by omega) d1 d3 d4 (en_ok 3 d1 0 d3 d4 (by omega) (by omega) (by omega) (by omega) (by omega))
      have hgr := (putG_grew HR1.out.ok HR1.out.sf ⟨3, d1, 0, d3, d4⟩).1
      have HGr : Hid (GrewG G (m.putG ⟨3, d1, 0, d3, d4⟩ G) 2) := hgr
      rw [hW0] at hG
      clear hgr hBW
      generalize m.putE ⟨3, d1, 0, d3, d4⟩ = X at *
      generalize m.putG ⟨3, d1, 0, d3, d4⟩ G = G' at *
      generalize m.put ⟨3, d1, 0, d3, d4⟩ = m' at *
      go_wp2_with fail
      refine (by exact hG : Calls _ _ _ _ _).mono ?_
      rintro e w6 ⟨rfl, tag6, hS6, hR6⟩
      rw [← hW0] at hS6
      have hW6 := HW1.out.step hS6 (Nat.le_refl _)
      have HI8 : Hid (Inv w D B (k + 1) (.slice xa L.length xc) w6) := ⟨m', G', tag6, L, hR6, hW6, HFL.out.1, HFL.out.2.trans HGr.out.su, by omega⟩
      clear hG hS6 hR6 hW6
      go_wp2
      go_roundg (l.length - (k + 1))
      case rel => exact ⟨k + 1, _, by omega, by go_num, rfl, HI8.out⟩
      case measure => omega
    have h4I : ¬ d0 ≤ 4 := h4
    by_cases h6 : d0 = 6
    · subst h6
      have hG := run_outcomes HR1.out (by omega) (.slice va d6.length vc) d6 ((HBt.out.later hbx).later hBW) h5
      rw [hW0] at hG
      clear hBW
      go_wp2_with fail
      refine (by exact hG : Calls _ _ _ _ _).mono ?_
      rintro e w6 ⟨rfl, tag6, hS6, hR6⟩
      rw [← hW0] at hS6
      have hW6 := HW1.out.step hS6 (Nat.le_refl _)
      have HI8 : Hid (Inv w D B (k + 1) (.slice xa L.length xc) w6) := ⟨_, G, tag6, L, hR6, hW6, HFL.out.1, HFL.out.2, by omega⟩
      clear hG hS6 hR6 hW6
      go_wp2
      go_roundg (l.length - (k + 1))
      case rel => exact ⟨k + 1, _, by omega, by go_num, rfl, HI8.out⟩
      case measure => omega
    · have h6I : (d0 == 6) = false := by simpa using h6
      have HI8 : Hid (Inv w D B (k + 1) (.slice xa L.length xc) W) := ⟨m, G, _, L, HR1.out.next, HW1.out, HFL.out.1, HFL.out.2, by omega⟩
      rw [hW0] at HI8
      clear hBW
      go_wp2
      go_roundg (l.length - (k + 1))
      case rel => exact ⟨k + 1, _, by omega, by go_num, rfl, HI8.out⟩
      case measure => omega

set_option maxRecDepth 100000 in
theorem lifted (os : Os) (started : os.Started) (H : Type) (enc : TypeId × Value → H) :
    ReturnsInHanded {} Try.checked os 5 .any (Rows.bookAheadSpec.pre6 enc Try.prog Try.f5 Rows.bookAheadRow.domain false) (Rows.bookAheadSpec.post enc Try.prog Try.f5 false true false false) := by
  refine returnsInHanded_of_change_sized (C := Try.checked) own started (by kernel_rfl) Try.func5
    (ChangeSpec.witness6 (enc := enc) (C := Try.checked) false ⟨#[], #[.slice none 0 0, .slice none 0 0], []⟩ 8 (by kernel_rfl) (by kernel_rfl) (by kernel_rfl) (by kernel_rfl)) ?_
  intro W base args ds gs before hval0 hW hcnd hsz0 _
  have hval : ∀ (j : Nat) t v, Try.f5.params[j]? = some t → args[j]? = some v → Value.okWide Try.prog W .any base t v := hval0
  have hsz : ∀ n ∈ DataW.weightsEach Try.prog (Try.f5.params.toList ++ Rows.bookAheadSpec.plain.varTypes Try.prog) (ds ++ gs), n ≤ reachBytes := fun n hn => by simpa using List.all_eq_true.1 hsz0 n hn
  have hW' := hW
  obtain ⟨p, q, hA0, hV, rfl, hfz, hnd⟩ := hW
  have hA : DataW.TrodAll enc Try.prog W 0 (fun _ => true) true Try.f5.params.toList args.toList ds p := hA0
  rw [Try.params5] at hA hval hsz
  obtain ⟨v0, vs0, d0, ds0, p0, q0, hargs, rfl, rfl, h0, r0⟩ := trodAll_cons hA
  obtain ⟨v1, vs1, d1, ds1, p1, q1, rfl, rfl, rfl, h1, r1⟩ := trodAll_cons r0
  obtain ⟨rfl, rfl, rfl⟩ := trodAll_nil r1
  obtain rfl : args = #[v0, v1] := by cases args; simp_all
  obtain ⟨rfl, rfl⟩ := trodVars_none hV
  have lt0 : ∀ x ∈ p0, x.block < W.heap.size := by obtain ⟨m, hm⟩ := h0; exact DataW.trod_lt m _ _ _ hm
  have V0 := viewDd (hval 0 38 v0 rfl rfl) h0 (fun n hn => hsz n (DataW.weights_mem_each (j := 0) rfl rfl n hn))
  have lt1 : ∀ x ∈ p1, x.block < W.heap.size := by obtain ⟨m, hm⟩ := h1; exact DataW.trod_lt m _ _ _ hm
  have V1 := view26 (hval 1 31 v1 rfl rfl) h1 (fun n hn => hsz n (DataW.weights_mem_each (j := 1) rfl rfl n hn))
  clear hA0 hval0 hsz0 hsz
  refine (walk v0 v1 W V0 V1).mono fun e W' ⟨he, bel⟩ => ?_
  subst he
  exact ⟨_, rfl, _, _, _, [], _, [], hW', trodAll_mk1 (shut_bool Try.underlying4 _), (trodAll_cons_mk (Below.trod laidOut (by kernel_rfl) (of_decide_eq_true (by kernel_rfl)) h0 bel lt0) (trodAll_cons_mk (Below.trod laidOut (by kernel_rfl) (of_decide_eq_true (by kernel_rfl)) h1 bel lt1) trodAll_mk0)), rfl, bel.frame _, fun h => by cases h⟩

theorem over : Rows.bookAheadRow.holds Try.pinned (OpenSpec.ofChange Rows.bookAheadSpec) :=
  OpenClaim.holds_of_wide 5 Try.f5 rfl rfl rfl rfl rfl rfl rfl ⟨rfl, rfl, rfl, rfl, rfl⟩ rfl rfl rfl rfl rfl (by kernel_rfl) Try.func5 (by kernel_rfl)
    (of_decide_eq_true (by kernel_rfl)) (by unfold Func.isWrapper; first | (rw [if_pos (by decide +kernel)]; kernel_rfl) | (rw [if_neg (by decide +kernel)]; exact ⟨rfl, rfl⟩))
    (fun os started H enc _ => lifted os started H enc)

end Go.Proofs.Ytafkkehcacdodaa.bookAhead
namespace Go.Proofs.Ytafkkehcacdodaa
theorem bookAhead_holds : Rows.BookAheadSaid := bookAhead.over
#print axioms bookAhead_holds
end Go.Proofs.Ytafkkehcacdodaa
