/- BookPlays: whatever is granted, released, paid, let fail, crashed, opened: each answer, entries, debts, spans, and how often the disk was called, are what the model says. -/
import Derived.Test.YtafkkehcacdodaaGreatM26
import Derived.Test.YtafkkehcacdodaaGreatRows
import Derived.Deep.CutRange
import Derived.Deep.CutBlock
set_option maxRecDepth 100000
namespace Go.Proofs.YtafkkehcacdodaaGreat.bookPlays
open Go.ChangeShapes Go.WideShapes Go.ChangeAt Go.RowKit Go.Shelf
attribute [local go_sem ↓] Go.wp_at_zero Go.wp_at_succ

theorem far_deed {w : World} {v : Value} {l : List Int} (h : Bts w v l) {tag : Nat → Nat} (hz : ∀ j, j < w.heap.size → tag j = 0) : l ≠ [] → ∀ g, v.ownBlock = some g → tag g / 16 ≠ 4 := fun hne g hg => by
  rw [hz g (bts_lt h hne g hg)]; decide

set_option maxHeartbeats 4000000 in
theorem walk_out (N now : Int) (B O : Nat) (l : List Dd) (v2 : Value) (w : World) (hd : Dds w v2 B O l) (hb : N < 1 ∨ 40 < N) : Calls Tryz.prog 3 #[.int .i64 N, .int .i64 now, v2] w fun e w' => e = .returned (.bool true) ∧ Below w.heap.size w w' := by
  obtain ⟨a, cap, rfl, hl, hm, ha, _⟩ := hd
  unfold maxLen at hm
  rcases hb with h | h
  · go_enter Tryz.func3, Tryz.ntmps3
    go_wp2_with (go_at_call 5; refine (awake11_ok _).mono ?_; rintro e w1 ⟨rfl, hA⟩)
    go_ret
    exact ⟨rfl, hA⟩
  · have h1 : ¬ N < 1 := by omega
    go_enter Tryz.func3, Tryz.ntmps3
    go_wp2_with (go_at_call 5; refine (awake11_ok _).mono ?_; rintro e w1 ⟨rfl, hA⟩)
    go_ret
    exact ⟨rfl, hA⟩

set_option maxHeartbeats 16000000 in
theorem walk_in (n : Nat) (now : Int) (B0 O : Nat) (l : List Dd) (v2 : Value) (w : World) (hDl : Dds w v2 B0 O l) (n1 : 1 ≤ n) (n2 : n ≤ 40) : Calls Tryz.prog 3 #[.int .i64 n, .int .i64 now, v2] w fun e w' => e = .returned (.bool true) ∧ Below w.heap.size w w' := by
  have HD : Hid (Dds w v2 B0 O l) := hDl
  obtain ⟨a, cap, rfl, hl, hm, ha, _⟩ := hDl
  unfold maxLen at hm
  have h1 : ¬ (n : Int) < 1 := by omega
  have h40 : ¬ (40 : Int) < (n : Int) := by omega
  go_enter Tryz.func3, Tryz.ntmps3
  go_wp2_with (go_at_call 5; refine (awake11_ok _).mono ?_; rintro e w1 ⟨rfl, hB1⟩)
  refine (room11_ok w1 _ B0 O l (HD.out.later hB1)).mono ?_
  rintro e w1' ⟨rfl, hx⟩
  rw [hx]
  clear hx
  by_cases hroom : roomK l = true
  case neg =>
    have hr' : roomK l = false := by simpa using hroom
    rw [hr']
    clear hroom hr'
    go_wp2
    go_ret
    exact ⟨rfl, hB1⟩
  obtain ⟨hl150, hl500⟩ := roomK_few hroom
  have HL5 : Hid (∀ d ∈ l, d.b.length ≤ 500) := hl500
  rw [hroom]
  clear hroom hl500
  have HN1 := new_ok w1 (fun _ => 0) w.heap.size 1 n hB1.size n1 (by omega)
  go_wp2_with fail
  refine (by exact HN1 : Calls _ _ _ _ _).mono ?_
  rintro e w2 ⟨p, tag2, rfl, hP2, hT2, hB2⟩
  have hB02 := hB1.trans (hB2.mono hB1.size)
  have HN2 := rnew_ok w2 tag2 w.heap.size 4 n hB02.size n1 (by omega)
  clear HN1
  go_wp2_with fail
  refine (by exact HN2 : Calls _ _ _ _ _).mono ?_
  rintro e w3 ⟨pm, tag3, rfl, hM3, hT3, hB3⟩
  have hP3 : PD w3 tag3 w.heap.size 1 (St.new n) p := hP2.keep (fun k hk _ => hB3.block k hk) hT3
  have hB03 := hB02.trans (hB3.mono hB02.size)
  have hz0 : Sz n 0 0 (St.new n) := ⟨St.ok_new n1 (by omega), rfl, Nat.le_refl _, Nat.le_refl _, Nat.le_refl _⟩
  have hO1 := popen_any w3 tag3 w.heap.size 1 (by omega) _ p p.D rfl hP3 hB03.size now hz0 n2 (by omega) (by omega)
  have HZ3 : Hid (∀ j, j < w.heap.size → tag3 j = 0) := fun j hj => by
    have := hB1.size
    have := hB2.size
    rw [hT3 j (by omega), hT2 j (by omega)]
  have HM3 : Hid (MD w3 tag3 w.heap.size 4 (St.new n) pm) := hM3
  have HB3 : Hid (Below w.heap.size w w3) := hB03
  clear HN2 hP2 hM3 hT2 hT3 hP3 hB1 hB2 hB3 hB02 hB03
  go_wp2_with fail
  refine (by exact hO1 : Calls _ _ _ _ _).mono ?_
  rintro e w4 ⟨tag4, B4, hS4, hp4, hk4, rfl⟩
  have hb4 : w.heap.size ≤ w4.heap.size := Nat.le_trans HB3.out.size hS4.below.size
  have hO2 := ropen_any w4 tag4 w.heap.size 4 (by omega) (by omega) _ pm pm.M rfl (HM3.out.otherR hS4 (by omega)) hb4 now hz0 n2 (by omega) (by omega)
  have HS4 : Hid (StepR tag3 tag4 w.heap.size 1 6 w3 w4) := hS4.wide (by omega) (by omega)
  have Hp4 : Hid (∃ p', p'.D = p.D ∧ PD w4 tag4 w.heap.size 1 (opS (St.new n) now) p') := hp4
  have Hk4 : Hid (opE (St.new n) now = 0 → BK w4 tag4 w.heap.size 1 p.D B4 (opnB (St.new n) now)) := hk4
  clear hO1 hS4 hp4 hk4
  go_wp2_with fail
  refine (by exact hO2 : Calls _ _ _ _ _).mono ?_
  rintro e w5 ⟨tag5, B5, hS5, hp5, hk5, rfl⟩
  have HT0 : Hid (Two w5 tag5 w.heap.size p.D pm.M n (400 * (0 + 1)) (500 * 0) (641 + 2 * 0) (bookV (opE (St.new n) now) B4) (bookV (opE (St.new n) now) B5) id id) :=
    (two_opened hz0 n2 (Nat.le_refl 641) Hp4.out Hk4.out hS5 hp5 hk5).mono (by omega) (by omega) (by omega)
  have HS05 : Hid (StepR tag3 tag5 w.heap.size 1 6 w3 w5) := HS4.out.trans (hS5.wide (by omega) (by omega))
  have HZ5 : Hid ((∀ j, j < w.heap.size → tag5 j = 0) ∧ Below w.heap.size w w5) := ⟨fun j hj => by rw [HS05.out.tags j (Nat.lt_of_lt_of_le hj HB3.out.size)]; exact HZ3.out j hj, HB3.out.trans HS05.out.below⟩
  clear hO2 hS5 hp5 hk5 Hp4 Hk4 HS4 HS05 hz0 hb4 HM3
  generalize opE (St.new n) now = X at *
  generalize bookV X B4 = bv0 at *
  generalize bookV X B5 = mv0 at *
  go_wp2_with fail
  go_loopg [7, 9, 11, 13, 15] l.length (fun gk dv xv bv mv i wr => ∃ (k D M : Nat) (b' m' : Value) (tag : Nat → Nat), k + gk = l.length ∧ i = .int .i64 k ∧ dv = .pointer (some ⟨D, 0, none⟩) ∧ xv = .pointer (some ⟨M, 0, none⟩) ∧ b' = bv ∧ m' = mv ∧ (∀ j, j < w.heap.size → tag j = 0) ∧ Below w.heap.size w wr ∧ Two wr tag w.heap.size D M n (400 * (k + 1)) (500 * k) (641 + 2 * k) b' m' id id)
  case atStart => exact ⟨0, p.D, pm.M, bv0, mv0, tag5, by omega, rfl, rfl, rfl, rfl, rfl, HZ5.out.1, HZ5.out.2, HT0.out⟩
  case round =>
    clear HT0 HZ5
    obtain ⟨wx, rfl⟩ : ∃ wx, wx = wr := ⟨wr, rfl⟩
    obtain ⟨k, D, M, bv, mv, tag, hk, rfl, rfl, rfl, hbv, hmv, hz, hBl, hT⟩ := hrel
    subst hbv
    subst hmv
    by_cases hlt : k < l.length
    case neg =>
      have hge : ¬ (k : Int) < (l.length : Int) := by omega
      clear hT
      go_wp2
      go_ret
      exact ⟨rfl, hBl⟩
    have hltI : (k : Int) < (l.length : Int) := by omega
    rcases ha with rfl | hnil
    case inr => rw [hnil] at hlt; simp at hlt
    obtain ⟨c0, c1, c2, c3, c4, c5⟩ := (HD.out.later hBl).cell k hlt
    have hok := (HD.out.ok k hlt)
    have h5 := HL5.out l[k] (List.getElem_mem hlt)
    have HBt : Hid (Bts w l[k].vb l[k].b) := hok.bt
    have hbb : isBytes l[k].b := by obtain ⟨_, _, _, _, _, _, _, hb, _⟩ := hok.bt; exact hb
    obtain ⟨va, vc, hvv, _⟩ := bts_src hok.bt
    generalize l[k] = d at *
    obtain ⟨d0, d1, d2, d3, d4, d5, d6⟩ := d
    simp only at c0 c1 c2 c3 c4 c5 hvv h5
    subst hvv
    have hn1 := hok.t1
    have hn2 := hok.s1
    have hn3 := hok.a1
    have hn4 := hok.b1
    have ho := hok.o1
    simp only at hn1 hn2 hn3 hn4 ho HBt
    have HBB : Hid (isBytes d6) := hbb
    clear hok hbb
    obtain ⟨W, hW0⟩ : ∃ W, W = wx.alloc (.cells #[.int .i64 d0, .int .i64 d1, .int .u32 d2, .int .u32 d3, .int .i64 d4, .slice va d6.length vc] 41) := ⟨_, rfl⟩
    have hBW : Below wx.heap.size wx W := by rw [hW0]; exact below_alloc _ _
    obtain ⟨tagA, htA⟩ : ∃ t, t = clip tag wx.heap.size := ⟨_, rfl⟩
    have HT : Hid (Two W tagA w.heap.size D M n (400 * (k + 1)) (500 * k) (641 + 2 * k) bv mv id id) := by rw [htA]; exact hT.new hBW
    have htw : tagA wx.heap.size / 16 < 1 := by rw [htA]; simp [clip]
    have hWs : wx.heap.size < W.heap.size := by rw [hW0]; simp
    have HZA : Hid ((∀ j, j < w.heap.size → tagA j = 0) ∧ Below w.heap.size w W) := ⟨fun j hj => by rw [htA, clip_lt _ _ _ (Nat.lt_of_lt_of_le hj hBl.size)]; exact hz j hj, hBl.trans (hBW.mono hBl.size)⟩
    have e0 : W.cell? ⟨wx.heap.size, 0, none⟩ = some (.int .i64 d0) := by rw [hW0]; simp
    have e1 : W.cell? ⟨wx.heap.size, 1, none⟩ = some (.int .i64 d1) := by rw [hW0]; simp
    have e2 : W.cell? ⟨wx.heap.size, 2, none⟩ = some (.int .u32 d2) := by rw [hW0]; simp
    have e3 : W.cell? ⟨wx.heap.size, 3, none⟩ = some (.int .u32 d3) := by rw [hW0]; simp
    have e4 : W.cell? ⟨wx.heap.size, 4, none⟩ = some (.int .i64 d4) := by rw [hW0]; simp
    have e5 : W.cell? ⟨wx.heap.size, 5, none⟩ = some (.slice va d6.length vc) := by rw [hW0]; simp
    have HC : Hid (∀ w2 tag2, StepR tagA tag2 w.heap.size 1 6 W w2 → w2.cell? ⟨wx.heap.size, 0, none⟩ = some (.int .i64 d0) ∧ w2.cell? ⟨wx.heap.size, 1, none⟩ = some (.int .i64 d1) ∧ w2.cell? ⟨wx.heap.size, 2, none⟩ = some (.int .u32 d2) ∧ w2.cell? ⟨wx.heap.size, 3, none⟩ = some (.int .u32 d3) ∧ w2.cell? ⟨wx.heap.size, 4, none⟩ = some (.int .i64 d4) ∧ w2.cell? ⟨wx.heap.size, 5, none⟩ = some (.slice va d6.length vc)) := fun w2 tag2 h2 =>
      ⟨((stepR_cell h2 hWs htw 0).1).trans e0, ((stepR_cell h2 hWs htw 1).1).trans e1, ((stepR_cell h2 hWs htw 2).1).trans e2, ((stepR_cell h2 hWs htw 3).1).trans e3, ((stepR_cell h2 hWs htw 4).1).trans e4, ((stepR_cell h2 hWs htw 5).1).trans e5⟩
    have HZ : Hid (∀ w2 tag2, StepR tagA tag2 w.heap.size 1 6 W w2 → (∀ j, j < w.heap.size → tag2 j = 0) ∧ Below w.heap.size w w2 ∧ w.heap.size ≤ w2.heap.size) := fun w2 tag2 h2 =>
      ⟨fun j hj => by rw [h2.tags j (Nat.lt_of_lt_of_le hj HZA.out.2.size)]; exact HZA.out.1 j hj, HZA.out.2.trans h2.below, Nat.le_trans HZA.out.2.size h2.below.size⟩
    have hbW : w.heap.size ≤ W.heap.size := HZA.out.2.size
    clear e0 e1 e2 e3 e4 e5 hT hBl hz htA htw hWs hBW
    go_upto_block 2 with fail
    rw [← hW0]
    clear hW0
    have HR0 : Hid (StepR tagA tagA w.heap.size 1 6 W W) := StepR.refl _ _ _ _ _
    obtain ⟨g0, g1, g2, g3, g4, g5⟩ := HC.out W tagA HR0.out
    go_cut [7, 9, 11, 12, 13, 14, 17, 18, 19, 20] from 59 to 193 (fun v7 v9 v11 v12 v13 v14 v17 v18 v19 v20 wc => ∃ (D' M' : Nat) (tag' : Nat → Nat), v7 = .pointer (some ⟨D', 0, none⟩) ∧ v9 = .pointer (some ⟨M', 0, none⟩) ∧ v17 = .bool true ∧ StepR tagA tag' w.heap.size 1 6 W wc ∧ Two wc tag' w.heap.size D' M' n (400 * (k + 2)) (500 * (k + 1)) (641 + 2 * (k + 1)) v11 v13 id id)
    case first =>
      by_cases h6 : d0 = 6
      · subst h6
        have hO := two_out HT.out hbW (.slice va d6.length vc) d6 (HBt.out.later (HZ.out W tagA HR0.out).2.1) h5 (by omega)
        go_wp2_with fail
        refine (by exact hO : Calls _ _ _ _ _).mono ?_
        rintro e w6 ⟨rfl, tag6, hS6, hT6⟩
        have HS6 : Hid (StepR tagA tag6 w.heap.size 1 6 W w6) := hS6.wide (Nat.le_refl _) (by omega)
        obtain ⟨g0, g1, g2, g3, g4, g5⟩ := HC.out w6 tag6 HS6.out
        obtain ⟨z1, z2, z3⟩ := HZ.out w6 tag6 HS6.out
        have hA := two_add hT6 z3 (.slice va d6.length vc) (HBt.out.later z2) (far_deed HBt.out z1) HBB.out h5 (by omega)
        clear hO hS6 hT6 z1 z2
        go_wp2_with fail
        refine (by exact hA : Calls _ _ _ _ _).mono ?_
        rintro e w7 ⟨rfl, tag7, hS7, hT7⟩
        have HF : Hid (StepR tagA tag7 w.heap.size 1 6 W w7 ∧ Two w7 tag7 w.heap.size D M n (400 * (k + 2)) (500 * (k + 1)) (641 + 2 * (k + 1)) bv mv id id) := ⟨HS6.out.trans (hS7.wide (by omega) (Nat.le_refl _)), hT7.mono (by omega) (by omega) (by omega)⟩
        clear hA hS7 hT7 HS6
        go_wp2
        go_meet
        exact ⟨D, M, tag7, rfl, rfl, rfl, HF.out.1, HF.out.2⟩
      have h6b : (d0 == 6) = false := by simpa using h6
      by_cases h7 : 7 ≤ d0
      · have hgm : 400 * (k + 1) ≤ 500000 := by omega
        have hgu : 500 * k ≤ 500000 := by omega
        go_upto_if 93 with fail
        go_cut [7, 9] from 59 to 193 (fun v7 v9 wc => ∃ (D' M' : Nat) (s : St) (p : PL) (pm : ML) (tag' : Nat → Nat), v7 = .pointer (some ⟨D', 0, none⟩) ∧ v9 = .pointer (some ⟨M', 0, none⟩) ∧ p.D = D' ∧ pm.M = M' ∧ PD wc tag' w.heap.size 1 s p ∧ MD wc tag' w.heap.size 4 s pm ∧ Sz n (400 * (k + 1)) (500 * k) s ∧ StepR tagA tag' w.heap.size 1 6 W wc)
        case first =>
          obtain ⟨s, p, pm, rfl, rfl, hP, hM, hsz⟩ := HT.out.disk
          by_cases h77 : d0 = 7
          · subst h77
            have hC1 := crash_okD W tagA w.heap.size 1 1 s p hP hbW (by have := hsz.sin; omega) (.slice va d6.length vc) d6 (HBt.out.later (HZ.out W tagA HR0.out).2.1) p.D rfl
            have HMp : Hid (MD W tagA w.heap.size 4 s pm) := hM
            have HSz : Hid (Sz n (400 * (k + 1)) (500 * k) s) := hsz
            clear hP hM hsz
            go_wp2_with fail
            refine (by exact hC1 : Calls _ _ _ _ _).mono ?_
            rintro e w6 ⟨p6, tag6, rfl, hP6, hT6, hB6⟩
            have HS6 : Hid (StepR tagA tag6 w.heap.size 1 6 W w6) := ⟨hB6.mono hbW, hT6, fun j hj _ => hB6.block j hj⟩
            obtain ⟨g0, g1, g2, g3, g4, g5⟩ := HC.out w6 tag6 HS6.out
            obtain ⟨z1, z2, z3⟩ := HZ.out w6 tag6 HS6.out
            have hM6 : MD w6 tag6 w.heap.size 4 s pm := HMp.out.keep (fun j hj _ => hB6.block j hj) hT6
            have hC2 := rcrash_ok w6 tag6 w.heap.size 4 4 s pm hM6 z3 (by have := HSz.out.sin; omega) (.slice va d6.length vc) d6 (HBt.out.later z2)
            have HP6 : Hid (PD w6 tag6 w.heap.size 1 (s.crash d6) p6) := hP6
            clear hC1 hP6 hM6 hT6 hB6 HMp z1 z2
            go_wp2_with fail
            refine (by exact hC2 : Calls _ _ _ _ _).mono ?_
            rintro e w7 ⟨p7, tag7, rfl, hM7, hT7, hB7⟩
            have HS7 : Hid (StepR tag6 tag7 w.heap.size 1 6 w6 w7) := ⟨hB7.mono z3, hT7, fun j hj _ => hB7.block j hj⟩
            have HF : Hid (PD w7 tag7 w.heap.size 1 (s.crash d6) p6 ∧ MD w7 tag7 w.heap.size 4 (s.crash d6) p7 ∧ Sz n (400 * (k + 1)) (500 * k) (s.crash d6) ∧ StepR tagA tag7 w.heap.size 1 6 W w7) :=
              ⟨HP6.out.keep (fun j hj _ => hB7.block j hj) hT7, hM7, (HSz.out.crash d6).mono (Nat.zero_le _) (Nat.zero_le _), HS6.out.trans HS7.out⟩
            clear hC2 hM7 hT7 hB7 HS6 HS7 HP6 HSz
            go_wp2
            go_meet
            exact ⟨p6.D, p7.M, s.crash d6, p6, p7, tag7, rfl, rfl, rfl, rfl, HF.out.1, HF.out.2.1, HF.out.2.2.1, HF.out.2.2.2⟩
          · have h77b : (d0 == 7) = false := by simpa using h77
            have HF : Hid (PD W tagA w.heap.size 1 s p ∧ MD W tagA w.heap.size 4 s pm ∧ Sz n (400 * (k + 1)) (500 * k) s) := ⟨hP, hM, hsz⟩
            clear hP hM hsz
            go_wp2
            go_meet
            exact ⟨p.D, pm.M, s, p, pm, tagA, rfl, rfl, rfl, rfl, HF.out.1, HF.out.2.1, HF.out.2.2, HR0.out⟩
        case rest =>
          obtain ⟨D', M', s, p, pm, tag6, rfl, rfl, hpD, hpM, hP6, hM6, hsz, hS6⟩ := hcut
          obtain ⟨w6, rfl⟩ : ∃ w6, w6 = wc := ⟨wc, rfl⟩
          obtain ⟨z1, z2, z3⟩ := HZ.out w6 tag6 hS6
          obtain ⟨g0, g1, g2, g3, g4, g5⟩ := HC.out w6 tag6 hS6
          have hO1 := popen_any w6 tag6 w.heap.size 1 (by omega) s p D' hpD hP6 z3 d1 hsz n2 hgm hgu
          have HM6 : Hid (MD w6 tag6 w.heap.size 4 s pm) := hM6
          have HS6 : Hid (StepR tagA tag6 w.heap.size 1 6 W w6) := hS6
          have HSz : Hid (Sz n (400 * (k + 1)) (500 * k) s) := hsz
          clear hP6 hM6 hS6 hsz hpD z1 z2 HT
          go_wp2_with fail
          refine (by exact hO1 : Calls _ _ _ _ _).mono ?_
          rintro e w7 ⟨tag7, B7, hS7, hp7, hk7, rfl⟩
          have hb7 : w.heap.size ≤ w7.heap.size := Nat.le_trans z3 hS7.below.size
          have hO2 := ropen_any w7 tag7 w.heap.size 4 (by omega) (by omega) s pm M' hpM (HM6.out.otherR hS7 (by omega)) hb7 d1 HSz.out n2 hgm hgu
          have HS7 : Hid (StepR tagA tag7 w.heap.size 1 6 W w7) := HS6.out.trans (hS7.wide (by omega) (by omega))
          obtain ⟨g0, g1, g2, g3, g4, g5⟩ := HC.out w7 tag7 HS7.out
          have Hp7 : Hid (∃ p', p'.D = D' ∧ PD w7 tag7 w.heap.size 1 (opS s d1) p') := hp7
          have Hk7 : Hid (opE s d1 = 0 → BK w7 tag7 w.heap.size 1 D' B7 (opnB s d1)) := hk7
          clear hO1 hS7 hp7 hk7 HS6 hpM
          go_wp2_with fail
          refine (by exact hO2 : Calls _ _ _ _ _).mono ?_
          rintro e w8 ⟨tag8, B8, hS8, hp8, hk8, rfl⟩
          have HT8 : Hid (Two w8 tag8 w.heap.size D' M' n (400 * (k + 2)) (500 * (k + 1)) (641 + 2 * (k + 1)) (bookV (opE s d1) B7) (bookV (opE s d1) B8) id id) :=
            (two_opened HSz.out n2 (Nat.le_refl 641) Hp7.out Hk7.out hS8 hp8 hk8).mono (by omega) (by omega) (by omega)
          have HS8 : Hid (StepR tagA tag8 w.heap.size 1 6 W w8) := HS7.out.trans (hS8.wide (by omega) (by omega))
          clear hO2 hS8 hp8 hk8 Hp7 Hk7 HS7 HSz HM6
          generalize opE s d1 = X at *
          generalize bookV X B7 = bv8 at *
          generalize bookV X B8 = mv8 at *
          go_wp2
          go_meet
          exact ⟨D', M', tag8, rfl, rfl, by simp, HS8.out, HT8.out⟩
      have h7n : ¬ 7 ≤ d0 := h7
      rcases HT.out with ⟨s, p, pm, hD', hM', hP, hM, hsz, rfl, rfl⟩ | ⟨m, B, B', hK, hR, hsm, rfl, rfl⟩
      · have HT2 : Hid (Two W tagA w.heap.size D M n (400 * (k + 2)) (500 * (k + 1)) (641 + 2 * (k + 1)) (.pointer none) (.pointer none) id id) := HT.out.mono (by omega) (by omega) (by omega)
        clear hP hM hsz hD' hM'
        go_wp2
        go_meet
        exact ⟨D, M, tagA, rfl, rfl, rfl, HR0.out, HT2.out⟩
      have hK : BK W tagA w.heap.size 1 D B m := hK
      have hR : RK W tagA w.heap.size 4 M B' m := hR
      have s1 := hsm.outs
      have s2 := hsm.recs
      have s3 := hsm.L
      have HRk : Hid (RK W tagA w.heap.size 4 M B' m) := hR
      have HSm : Hid (Sm n (400 * (k + 1)) (500 * k) (641 + 2 * k) m) := hsm
      clear hR hsm HT
      by_cases h2 : d0 ≤ 2
      · have hok := en_ok 2 d1 d2 d3 d4 (by omega) (by omega) (by omega) (by omega) (by omega)
        have hG := bgrant_ok W tagA w.heap.size 1 D B (by omega) m hK hbW d1 d2 d3 d4 hok (400 * (k + 1)) HSm.out.ok (by omega) (by omega) (by omega) (by omega)
        have HSp : Hid (Sm n (400 * (k + 1) + 4) (500 * k) (641 + 2 * k + 2) (m.put ⟨2, d1, d2, d3, d4⟩)) := HSm.out.put hok
        clear hK
        go_wp2_with fail
        refine (by exact hG : Calls _ _ _ _ _).mono ?_
        rintro e w6 ⟨rfl, tag6, hS6, hK6⟩
        have HS6 : Hid (StepR tagA tag6 w.heap.size 1 6 W w6) := hS6.wide (Nat.le_refl _) (by omega)
        obtain ⟨g0, g1, g2, g3, g4, g5⟩ := HC.out w6 tag6 HS6.out
        obtain ⟨z1, z2, z3⟩ := HZ.out w6 tag6 HS6.out
        have hG2 := rgrant_ok w6 tag6 w.heap.size 4 M B' (by omega) m (HRk.out.otherR hS6 (by omega)) z3 d1 d2 d3 d4 hok (400 * (k + 1)) HSm.out.ok (by omega) (by omega) (by omega) (by omega)
        have HK6 : Hid (BK w6 tag6 w.heap.size 1 D B (m.put ⟨2, d1, d2, d3, d4⟩)) := hK6
        clear hG hS6 hK6 z1 z2 HRk HSm
        generalize m.putE ⟨2, d1, d2, d3, d4⟩ = X at *
        generalize m.put ⟨2, d1, d2, d3, d4⟩ = m' at *
        go_wp2_with fail
        refine (by exact hG2 : Calls _ _ _ _ _).mono ?_
        rintro e w7 ⟨rfl, tag7, hS7, hR7⟩
        have HF : Hid (StepR tagA tag7 w.heap.size 1 6 W w7 ∧ Two w7 tag7 w.heap.size D M n (400 * (k + 2)) (500 * (k + 1)) (641 + 2 * (k + 1)) (.pointer (some ⟨B, 0, none⟩)) (.pointer (some ⟨B', 0, none⟩)) id id) :=
          ⟨HS6.out.trans (hS7.wide (by omega) (by omega)), .inr ⟨m', B, B', HK6.out.otherR hS7 (by omega), hR7, HSp.out.mono (by omega) (by omega) (by omega), rfl, rfl⟩⟩
        clear hG2 hS7 hR7 HS6 HK6 HSp
        go_wp2
        go_meet
        exact ⟨D, M, tag7, rfl, rfl, by simp, HF.out.1, HF.out.2⟩
      have h2I : ¬ d0 ≤ 2 := h2
      by_cases h4 : d0 ≤ 4
      · have hok := en_ok 3 d1 0 d3 d4 (by omega) (by omega) (by omega) (by omega) (by omega)
        have hG := brelease_ok W tagA w.heap.size 1 D B (by omega) m hK hbW d1 d3 d4 hok (400 * (k + 1)) HSm.out.ok (by omega) (by omega) (by omega) (by omega)
        have HSp : Hid (Sm n (400 * (k + 1) + 4) (500 * k) (641 + 2 * k + 2) (m.put ⟨3, d1, 0, d3, d4⟩)) := HSm.out.put hok
        clear hK
        go_wp2_with fail
        refine (by exact hG : Calls _ _ _ _ _).mono ?_
        rintro e w6 ⟨rfl, tag6, hS6, hK6⟩
        have HS6 : Hid (StepR tagA tag6 w.heap.size 1 6 W w6) := hS6.wide (Nat.le_refl _) (by omega)
        obtain ⟨g0, g1, g2, g3, g4, g5⟩ := HC.out w6 tag6 HS6.out
        obtain ⟨z1, z2, z3⟩ := HZ.out w6 tag6 HS6.out
        have hG2 := rrelease_ok w6 tag6 w.heap.size 4 M B' (by omega) m (HRk.out.otherR hS6 (by omega)) z3 d1 d3 d4 hok (400 * (k + 1)) HSm.out.ok (by omega) (by omega) (by omega) (by omega)
        have HK6 : Hid (BK w6 tag6 w.heap.size 1 D B (m.put ⟨3, d1, 0, d3, d4⟩)) := hK6
        clear hG hS6 hK6 z1 z2 HRk HSm
        generalize m.putE ⟨3, d1, 0, d3, d4⟩ = X at *
        generalize m.put ⟨3, d1, 0, d3, d4⟩ = m' at *
        go_wp2_with fail
        refine (by exact hG2 : Calls _ _ _ _ _).mono ?_
        rintro e w7 ⟨rfl, tag7, hS7, hR7⟩
        have HF : Hid (StepR tagA tag7 w.heap.size 1 6 W w7 ∧ Two w7 tag7 w.heap.size D M n (400 * (k + 2)) (500 * (k + 1)) (641 + 2 * (k + 1)) (.pointer (some ⟨B, 0, none⟩)) (.pointer (some ⟨B', 0, none⟩)) id id) :=
          ⟨HS6.out.trans (hS7.wide (by omega) (by omega)), .inr ⟨m', B, B', HK6.out.otherR hS7 (by omega), hR7, HSp.out.mono (by omega) (by omega) (by omega), rfl, rfl⟩⟩
        clear hG2 hS7 hR7 HS6 HK6 HSp
        go_wp2
        go_meet
        exact ⟨D, M, tag7, rfl, rfl, by simp, HF.out.1, HF.out.2⟩
      have h4I : ¬ d0 ≤ 4 := h4
      have hG := bpay_ok W tagA w.heap.size 1 D B (by omega) m hK hbW (400 * (k + 1)) HSm.out.ok (by omega) (by omega) (by omega) (by omega)
      have HSp : Hid (Sm n (400 * (k + 1) + 2) (500 * k) (641 + 2 * k + 1) m.pay) := HSm.out.pay
      clear hK
      go_wp2_with fail
      refine (by exact hG : Calls _ _ _ _ _).mono ?_
      rintro e w6 ⟨rfl, tag6, hS6, hK6⟩
      have HS6 : Hid (StepR tagA tag6 w.heap.size 1 6 W w6) := hS6.wide (Nat.le_refl _) (by omega)
      obtain ⟨z1, z2, z3⟩ := HZ.out w6 tag6 HS6.out
      have hG2 := rpay_ok w6 tag6 w.heap.size 4 M B' (by omega) m (HRk.out.otherR hS6 (by omega)) z3 (400 * (k + 1)) HSm.out.ok (by omega) (by omega) (by omega) (by omega)
      have HK6 : Hid (BK w6 tag6 w.heap.size 1 D B m.pay) := hK6
      clear hG hS6 hK6 z1 z2 HRk HSm
      generalize m.payE = X at *
      generalize m.pay = m' at *
      go_wp2_with fail
      refine (by exact hG2 : Calls _ _ _ _ _).mono ?_
      rintro e w7 ⟨rfl, tag7, hS7, hR7⟩
      have HF : Hid (StepR tagA tag7 w.heap.size 1 6 W w7 ∧ Two w7 tag7 w.heap.size D M n (400 * (k + 2)) (500 * (k + 1)) (641 + 2 * (k + 1)) (.pointer (some ⟨B, 0, none⟩)) (.pointer (some ⟨B', 0, none⟩)) id id) :=
        ⟨HS6.out.trans (hS7.wide (by omega) (by omega)), .inr ⟨m', B, B', HK6.out.otherR hS7 (by omega), hR7, HSp.out.mono (by omega) (by omega) (by omega), rfl, rfl⟩⟩
      clear hG2 hS7 hR7 HS6 HK6 HSp
      go_wp2
      go_meet
      exact ⟨D, M, tag7, rfl, rfl, by simp, HF.out.1, HF.out.2⟩
    case rest =>
      obtain ⟨D', M', tag6, rfl, rfl, rfl, hS6, hT6⟩ := hcut
      obtain ⟨w6, rfl⟩ : ∃ w6, w6 = wc := ⟨wc, rfl⟩
      obtain ⟨z1, z2, z3⟩ := HZ.out w6 tag6 hS6
      have HT6 : Hid (Two w6 tag6 w.heap.size D' M' n (400 * (k + 2)) (500 * (k + 1)) (641 + 2 * (k + 1)) _ _ id id) := hT6
      have HZ6 : Hid ((∀ j, j < w.heap.size → tag6 j = 0) ∧ Below w.heap.size w w6) := ⟨z1, z2⟩
      clear hS6 HC HT HR0 z1 z2 g0 g1 g2 g3 g4 g5
      rcases hT6 with ⟨s, p, pm, hD', hM', hP, hM, hsz, rfl, rfl⟩ | ⟨m, B, B', hK, hR, hsm, rfl, rfl⟩
      · clear hD' hM' hP hM hsz
        go_wp2
        go_roundg (l.length - (k + 1))
        case rel => exact ⟨k + 1, D', M', _, _, tag6, by omega, by go_num, rfl, rfl, rfl, rfl, HZ6.out.1, HZ6.out.2, HT6.out⟩
        case measure => omega
      · have hL := looks11_ok w6 tag6 w.heap.size D' M' B B' m hK hR hsm.ok.fL (by have := hsm.L; omega) (by have := hsm.ok.d1; omega)
        clear hK hR hsm
        go_wp2_with fail
        refine (by exact hL : Calls _ _ _ _ _).mono ?_
        rintro e w7 ⟨rfl, hB7⟩
        have HT7 : Hid (Two w7 (clip tag6 w6.heap.size) w.heap.size D' M' n (400 * (k + 2)) (500 * (k + 1)) (641 + 2 * (k + 1)) (.pointer (some ⟨B, 0, none⟩)) (.pointer (some ⟨B', 0, none⟩)) id id) := HT6.out.new hB7
        have HZ7 : Hid ((∀ j, j < w.heap.size → clip tag6 w6.heap.size j = 0) ∧ Below w.heap.size w w7) := ⟨fun j hj => by rw [clip_lt _ _ _ (Nat.lt_of_lt_of_le hj z3)]; exact HZ6.out.1 j hj, HZ6.out.2.trans (hB7.mono z3)⟩
        clear hL hB7 HT6
        go_wp2
        go_roundg (l.length - (k + 1))
        case rel => exact ⟨k + 1, D', M', _, _, _, by omega, by go_num, rfl, rfl, rfl, rfl, HZ7.out.1, HZ7.out.2, HT7.out⟩
        case measure => omega

theorem walk (v0 v1 v2 : Value) (w : World) (V0 : IsI64 w v0) (V1 : IsI64 w v1) (V2 : IsDds w v2) : Calls Tryz.prog 3 #[v0, v1, v2] w fun e w' => e = .returned (.bool true) ∧ Below w.heap.size w w' := by
  obtain ⟨N, rfl, _⟩ := V0
  obtain ⟨now, rfl, _⟩ := V1
  obtain ⟨B, O, l, hd⟩ := V2
  by_cases hb : N < 1 ∨ 40 < N
  · exact walk_out N now B O l v2 w hd hb
  · obtain ⟨n, rfl⟩ : ∃ n : Nat, N = n := ⟨N.toNat, by omega⟩
    exact walk_in n now B O l v2 w hd (by omega) (by omega)

set_option maxRecDepth 100000 in
theorem lifted (os : Os) (started : os.Started) (H : Type) (enc : TypeId × Value → H) :
    ReturnsInHanded {} Tryz.checked os 3 .any (Rows.bookPlaysSpec.pre6 enc Tryz.prog Tryz.f3 Rows.bookPlaysRow.domain false) (Rows.bookPlaysSpec.post enc Tryz.prog Tryz.f3 false true false false) := by
  refine returnsInHanded_of_change_sized (C := Tryz.checked) own started (by kernel_rfl) Tryz.func3
    (ChangeSpec.witness6 (enc := enc) (C := Tryz.checked) false ⟨#[], #[.int .i64 0, .int .i64 0, .slice none 0 0], []⟩ 8 (by kernel_rfl) (by kernel_rfl) (by kernel_rfl) (by kernel_rfl)) ?_
  intro W base args ds gs before hval0 hW hcnd hsz0 _
  have hval : ∀ (j : Nat) t v, Tryz.f3.params[j]? = some t → args[j]? = some v → Value.okWide Tryz.prog W .any base t v := hval0
  have hsz : ∀ n ∈ DataW.weightsEach Tryz.prog (Tryz.f3.params.toList ++ Rows.bookPlaysSpec.plain.varTypes Tryz.prog) (ds ++ gs), n ≤ reachBytes := fun n hn => by simpa using List.all_eq_true.1 hsz0 n hn
  have hW' := hW
  obtain ⟨p, q, hA0, hV, rfl, hfz, hnd⟩ := hW
  have hA : DataW.TrodAll enc Tryz.prog W 0 (fun _ => true) true Tryz.f3.params.toList args.toList ds p := hA0
  rw [Tryz.params3] at hA hval hsz
  obtain ⟨v0, vs0, d0, ds0, p0, q0, hargs, rfl, rfl, h0, r0⟩ := trodAll_cons hA
  obtain ⟨v1, vs1, d1, ds1, p1, q1, rfl, rfl, rfl, h1, r1⟩ := trodAll_cons r0
  obtain ⟨v2, vs2, d2, ds2, p2, q2, rfl, rfl, rfl, h2, r2⟩ := trodAll_cons r1
  obtain ⟨rfl, rfl, rfl⟩ := trodAll_nil r2
  obtain rfl : args = #[v0, v1, v2] := by cases args; simp_all
  obtain ⟨rfl, rfl⟩ := trodVars_none hV
  have lt0 : ∀ x ∈ p0, x.block < W.heap.size := by obtain ⟨m, hm⟩ := h0; exact DataW.trod_lt m _ _ _ hm
  have V0 := view3 (hval 0 3 v0 rfl rfl) h0 (fun n hn => hsz n (DataW.weights_mem_each (j := 0) rfl rfl n hn))
  have lt1 : ∀ x ∈ p1, x.block < W.heap.size := by obtain ⟨m, hm⟩ := h1; exact DataW.trod_lt m _ _ _ hm
  have V1 := view2 (hval 1 2 v1 rfl rfl) h1 (fun n hn => hsz n (DataW.weights_mem_each (j := 1) rfl rfl n hn))
  have lt2 : ∀ x ∈ p2, x.block < W.heap.size := by obtain ⟨m, hm⟩ := h2; exact DataW.trod_lt m _ _ _ hm
  have V2 := viewDd (hval 2 22 v2 rfl rfl) h2 (fun n hn => hsz n (DataW.weights_mem_each (j := 2) rfl rfl n hn))
  clear hA0 hval0 hsz0 hsz
  refine (walk v0 v1 v2 W V0 V1 V2).mono fun e W' ⟨he, bel⟩ => ?_
  subst he
  exact ⟨_, rfl, _, _, _, [], _, [], hW', trodAll_mk1 (shut_bool Tryz.underlying4 _), (trodAll_cons_mk (Below.trod laidOut (by kernel_rfl) (of_decide_eq_true (by kernel_rfl)) h0 bel lt0) (trodAll_cons_mk (Below.trod laidOut (by kernel_rfl) (of_decide_eq_true (by kernel_rfl)) h1 bel lt1) (trodAll_cons_mk (Below.trod laidOut (by kernel_rfl) (of_decide_eq_true (by kernel_rfl)) h2 bel lt2) trodAll_mk0))), rfl, bel.frame _, fun h => by cases h⟩

theorem over : Rows.bookPlaysRow.holds Tryz.pinned (OpenSpec.ofChange Rows.bookPlaysSpec) :=
  OpenClaim.holds_of_wide 3 Tryz.f3 rfl rfl rfl rfl rfl rfl rfl ⟨rfl, rfl, rfl, rfl, rfl⟩ rfl rfl rfl rfl rfl (by kernel_rfl) Tryz.func3 (by kernel_rfl)
    (of_decide_eq_true (by kernel_rfl)) (by unfold Func.isWrapper; first | (rw [if_pos (by decide +kernel)]; kernel_rfl) | (rw [if_neg (by decide +kernel)]; exact ⟨rfl, rfl⟩))
    (fun os started H enc _ => lifted os started H enc)

end Go.Proofs.YtafkkehcacdodaaGreat.bookPlays
namespace Go.Proofs.YtafkkehcacdodaaGreat
theorem bookPlays_holds : Rows.BookPlaysSaid := bookPlays.over
#print axioms bookPlays_holds
end Go.Proofs.YtafkkehcacdodaaGreat
