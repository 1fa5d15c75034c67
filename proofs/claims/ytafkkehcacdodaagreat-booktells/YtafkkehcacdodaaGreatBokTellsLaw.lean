/- BookTells: behind a crash, whatever failed and whatever is left: who asks the disk finds just whoever had a block by an answer OK. -/
import Derived.Test.YtafkkehcacdodaaGreatM34
import Derived.Test.YtafkkehcacdodaaGreatM25
import Derived.Test.YtafkkehcacdodaaGreatRows
import Derived.Deep.RegionHeld3
import Derived.Deep.CutRange
import Derived.Deep.CutBlock
set_option maxRecDepth 100000
namespace Go.Proofs.YtafkkehcacdodaaGreat.bookTells
open Go.ChangeShapes Go.WideShapes Go.ChangeAt Go.RowKit Go.Shelf
attribute [local go_sem ↓] Go.wp_at_zero Go.wp_at_succ

set_option maxHeartbeats 16000000 in
theorem walk (v0 v1 v2 : Value) (w : World) (V0 : IsDds w v0) (V1 : IsBts w v1) (V2 : IsI64 w v2) : Calls Tryz.prog 4 #[v0, v1, v2] w fun e w' => e = .returned (.bool true) ∧ Below w.heap.size w w' := by
  obtain ⟨B0, O, l, hDl⟩ := V0
  have HD : Hid (Dds w v0 B0 O l) := hDl
  obtain ⟨a, cap, rfl, hl, hm, ha, _⟩ := hDl
  obtain ⟨ch, hch, _⟩ := V1
  have HCh : Hid (Bts w v1 ch) := hch
  obtain ⟨a1, cap1, rfl, hl1, hm1, _⟩ := bts_src hch
  obtain ⟨mr, rfl, hnw⟩ := V2
  clear hch
  unfold maxLen at hm hm1
  go_enter Tryz.func4, Tryz.ntmps4
  go_wp2_with (go_at_call 5; refine (awake11_ok _).mono ?_; rintro e w1 ⟨rfl, hB1⟩)
  refine (room11_ok w1 _ B0 O l (HD.out.later hB1)).mono ?_
  rintro e w1' ⟨rfl, hx⟩
  rw [hx]
  clear hx
  by_cases hroom : roomK l = true
  case neg =>
    have hr' : roomK l = false := by simpa using hroom
    rw [hr']
    clear hroom hr'
    go_wp2
    go_ret
    exact ⟨rfl, hB1⟩
  obtain ⟨hl150, hl500⟩ := roomK_few hroom
  have HL5 : Hid (∀ d ∈ l, d.b.length ≤ 500) := hl500
  rw [hroom]
  clear hroom hl500
  by_cases hbig : 500 < ch.length
  · have hbI : (500 : Int) < (ch.length : Int) := by omega
    go_wp2_with fail
    go_ret
    exact ⟨rfl, hB1⟩
  have hbI : ¬ (500 : Int) < (ch.length : Int) := by omega
  go_wp2_with fail
  refine (run_fresh w1 hB1 400 400 rfl (by omega) (by omega)).mono ?_
  rintro e w2 ⟨D, B, tag2, rfl, hR2⟩
  have hmk1 : ∀ w, (Instr.makeSlice 55 (.int .i64 6) (.int .i64 6)).run Tryz.prog w = .ok (.slice (some ⟨w.heap.size, 0, none⟩) 6 6) (w.alloc (.cells #[.int .i64 0, .int .i64 0, .int .i64 0, .int .i64 0, .int .i64 0, .int .i64 0] 3)) := fun _ => by kernel_rfl
  have hmk2 : ∀ w, (Instr.makeSlice 56 (.int .i64 6) (.int .i64 6)).run Tryz.prog w = .ok (.slice (some ⟨w.heap.size, 0, none⟩) 6 6) (w.alloc (.cells #[.int .i64 0, .int .i64 0, .int .i64 0, .int .i64 0, .int .i64 0, .int .i64 0] 2)) := fun _ => by kernel_rfl
  obtain ⟨W3, hW3⟩ : ∃ W, W = (w2.alloc (.cells #[.int .i64 0, .int .i64 0, .int .i64 0, .int .i64 0, .int .i64 0, .int .i64 0] 3)).alloc (.cells #[.int .i64 0, .int .i64 0, .int .i64 0, .int .i64 0, .int .i64 0, .int .i64 0] 2) := ⟨_, rfl⟩
  obtain ⟨tag3, HT3⟩ : ∃ tag3, Hid (TI w D B w2.heap.size (w2.heap.size + 1) 0 (newB 400 0) (wrtG (St.new 400) ⟨0, 0, []⟩ [bootE 0] []) (fun _ => 0) (fun _ => 0) 0 [] (.slice none 0 0) W3 tag3) := by
    have hb1 := below_alloc w2 (.cells #[.int .i64 0, .int .i64 0, .int .i64 0, .int .i64 0, .int .i64 0, .int .i64 0] 3)
    have hb2 := below_alloc (w2.alloc (.cells #[.int .i64 0, .int .i64 0, .int .i64 0, .int .i64 0, .int .i64 0, .int .i64 0] 3)) (.cells #[.int .i64 0, .int .i64 0, .int .i64 0, .int .i64 0, .int .i64 0, .int .i64 0] 2)
    have hB : Below w2.heap.size w2 W3 := by rw [hW3]; exact hb1.trans (hb2.mono hb1.size)
    have hs1 : (w2.alloc (.cells #[.int .i64 0, .int .i64 0, .int .i64 0, .int .i64 0, .int .i64 0, .int .i64 0] 3)).heap.size = w2.heap.size + 1 := by simp
    have hbs := hR2.below.size
    obtain ⟨tag3, ht3⟩ : ∃ t : Nat → Nat, t = fun k => if k < w2.heap.size then tag2 k else if k = w2.heap.size then 656 else 672 := ⟨_, rfl⟩
    have t1 : ∀ k, k < w2.heap.size → tag3 k = tag2 k := fun k hk => by rw [ht3]; simp [hk]
    have hS : StepR tag2 tag3 w.heap.size 4 4 w2 W3 := ⟨hB.mono hbs, t1, fun k hk _ => hB.block k hk⟩
    have t2 : tag3 w2.heap.size = 656 := by rw [ht3]; simp
    have t3 : tag3 (w2.heap.size + 1) = 672 := by rw [ht3]; show (if w2.heap.size + 1 < w2.heap.size then _ else if w2.heap.size + 1 = w2.heap.size then _ else _) = _; rw [if_neg (by omega), if_neg (by omega)]
    refine ⟨tag3, hR2.side hS (Nat.le_refl _), told_new 400, ⟨?_, t2, hbs⟩, ⟨?_, t3, by omega⟩, ⟨win_nil _ _, fun g hg => by simp [Value.ownBlock] at hg⟩⟩
    · rw [hW3]
      exact (blk_new w2 _ _).same (hb2.block _ (by simp))
    · rw [hW3, ← hs1]
      exact blk_new _ _ _
  have HW3 : Hid (W3 = (w2.alloc (.cells #[.int .i64 0, .int .i64 0, .int .i64 0, .int .i64 0, .int .i64 0, .int .i64 0] 3)).alloc (.cells #[.int .i64 0, .int .i64 0, .int .i64 0, .int .i64 0, .int .i64 0, .int .i64 0] 2)) := hW3
  clear hW3 hR2 hB1
  go_wp2_with fail
  rw [← HW3.out]
  clear HW3 hmk1 hmk2
  obtain ⟨ob, hob⟩ : ∃ ob, ob = w2.heap.size := ⟨_, rfl⟩
  rw [← hob] at HT3 ⊢
  obtain ⟨tb, htb⟩ : ∃ tb, tb = ob + 1 := ⟨_, rfl⟩
  rw [← htb] at HT3 ⊢
  clear hob htb
  go_loopg [11, 12, 13] l.length (fun gk qv nv iv wr => ∃ (k : Nat) (now : Int) (m : Bm) (G : List Tr) (ow tm : Nat → Int) (A : List Sp) (q' : Value) (tag : Nat → Nat), k + gk = l.length ∧ iv = .int .i64 k ∧ q' = qv ∧ nv = .int .i64 now ∧ now ≤ 3 * k ∧ A.length ≤ k ∧ TI w D B ob tb k m G ow tm now A q' wr tag)
  case atStart => exact ⟨0, 0, _, _, _, _, [], _, tag3, by omega, rfl, rfl, rfl, by omega, Nat.le_refl _, HT3.out⟩
  case round =>
    clear HT3
    obtain ⟨wx, rfl⟩ : ∃ wx, wx = wr := ⟨wr, rfl⟩
    obtain ⟨k, now, m, G, ow, tm, A, vq, tag, hk, rfl, hvq, rfl, hnow, hAl, hT⟩ := hrel
    subst hvq
    by_cases hlt : k < l.length
    case neg =>
      have hge : ¬ (k : Int) < (l.length : Int) := by omega
      have hk150 : k ≤ 150 := by omega
      have HT : Hid (TI w D B ob tb k m G ow tm now A vq wx tag) := hT
      have hnow0 := hT.told.fx.now0
      clear hT
      go_wp2_with fail
      go_loopg [11, 16] 6 (fun gk2 qv iv wr2 => ∃ (κ : Nat) (A2 : List Sp) (q2 : Value) (tag2 : Nat → Nat), κ + gk2 = 6 ∧ q2 = qv ∧ iv = .int .i64 κ ∧ A2.length ≤ k + κ ∧ A2 = A ++ lastA ow tm now κ ∧ P4 w D B ob tb k m G ow tm A2 q2 wr2 tag2)
      case atStart => exact ⟨0, A, vq, tag, by omega, rfl, rfl, by omega, by simp [lastA], HT.out.p4⟩
      case round =>
        obtain ⟨wy, rfl⟩ : ∃ wy, wy = wr := ⟨wr, rfl⟩
        obtain ⟨κ, A2, q2, tag2, hκg, hq2, rfl, hA2l, hA2, hP⟩ := hrel
        subst hq2
        have HP : Hid (P4 w D B ob tb k m G ow tm A2 q2 wy tag2) := hP
        have HA2 : Hid (A2 = A ++ lastA ow tm now κ) := hA2
        clear hP hA2
        by_cases hκ6 : κ < 6
        case pos =>
          have hκI : (κ : Int) < 6 := by omega
          have C1 : wy.cell? ⟨ob, κ, none⟩ = some (.int .i64 (ow κ)) := HP.out.2.1.cell hκ6
          have C2 : wy.cell? ⟨tb, κ, none⟩ = some (.int .i64 (tm κ)) := HP.out.2.2.1.cell hκ6
          have K1 : ((κ : Int) % 2) = ka κ := rfl
          have K2 : ((κ : Int) / 2) = kb κ := rfl
          have K3 : Int.tmod (κ : Int) 2 = ka κ := by rw [Int.tmod_eq_emod_of_nonneg (by omega)]; rfl
          have K4 : Int.tdiv (κ : Int) 2 = kb κ := by rw [Int.tdiv_eq_ediv_of_nonneg (by omega)]; rfl
          obtain ⟨K5, K6⟩ := ka_in κ
          obtain ⟨K7, K8⟩ := kb_in hκ6
          obtain ⟨hf1, hf2⟩ := HT.out.told.fx.ow3 κ hκ6
          by_cases hp : 0 < ow κ
          · have hsE : (⟨IntKind.u32.wrap (ow κ), IntKind.u32.wrap (ka κ), IntKind.i64.wrap (kb κ), tm κ, now, false⟩ : Sp) = askS (ow κ) κ (tm κ) now := by
              unfold askS
              rw [IntKind.wrap_u32, IntKind.wrap_u32, i64_id _ (by omega) (by omega), Int.emod_eq_of_lt (by omega) (by omega), Int.emod_eq_of_lt (by omega) (by omega)]
            obtain ⟨qa, qc, a5, c5', w5, tag5, hvq, hr5, hP5⟩ := (HP.out.fresh (Below.refl _ wy).drew).push (by omega) ⟨IntKind.u32.wrap (ow κ), IntKind.u32.wrap (ka κ), IntKind.i64.wrap (kb κ), tm κ, now, false⟩
            simp only at hr5
            rw [hsE] at hP5
            subst hvq
            have HP5 : Hid (P4 w D B ob tb k m G ow tm (A2 ++ [askS (ow κ) κ (tm κ) now]) (.slice a5 (A2.length + 1) c5') w5 tag5) := hP5
            have CD1 : wy.drew.cell? ⟨ob, κ, none⟩ = some (.int .i64 (ow κ)) := C1
            have CD2 : wy.drew.cell? ⟨tb, κ, none⟩ = some (.int .i64 (tm κ)) := C2
            have HA3 : Hid (A2 ++ [askS (ow κ) κ (tm κ) now] = A ++ lastA ow tm now (κ + 1)) := by
              show _ = _
              rw [lastA_succ, if_pos hp, HA2.out, List.append_assoc]
            have hl3 : (A2 ++ [askS (ow κ) κ (tm κ) now]).length ≤ k + (κ + 1) := by rw [List.length_append]; simp; omega
            clear hP5 hsE
            go_wp2_with fail
            go_region_law (refine step_app_run rfl (.tmp 197) (.tmp 214) 57 rfl (.slice qa A2.length qc) (.slice (some ⟨wy.drew.heap.size, 0, none⟩) 1 1) (by rfl) (by rfl) (by exact hr5) ?_)
            all_goals
              clear C1 C2 hr5 CD1 CD2
              go_wp2
              go_roundg (6 - (κ + 1))
              case rel => exact ⟨κ + 1, _, _, tag5, by omega, rfl, by go_num, hl3, HA3.out, HP5.out⟩
              case measure => omega
          · have HA3 : Hid (A2 = A ++ lastA ow tm now (κ + 1)) := by
              show _ = _
              rw [lastA_succ, if_neg hp, List.append_nil, HA2.out]
            go_wp2
            go_roundg (6 - (κ + 1))
            case rel => exact ⟨κ + 1, A2, _, tag2, by omega, rfl, by go_num, by omega, HA3.out, HP.out⟩
            case measure => omega
        case neg =>
          have hκ6I : ¬ (κ : Int) < 6 := by omega
          have hκe : κ = 6 := by omega
          subst hκe
          obtain ⟨μ, hbits⟩ : ∃ μ, bits .and .i64 mr 1023 = μ := ⟨_, rfl⟩
          have hμ := and_k mr
          rw [hbits] at hμ
          obtain ⟨hμ0, hμ3⟩ := hμ
          have HG : Hid (goodT (now + μ) = true) := decide_eq_true ⟨by omega, by omega⟩
          have hcr := run_crash HP.out.1 hk150 4 _ ch (HCh.out.later HP.out.1.below)
          have HTel : Hid (∀ R, R.Sublist (moreE (startL (m.s.crash ch)) (now + μ)) → Tells A2 now (startL (m.s.crash ch) ++ R)) := fun R hR => by
            rw [HA2.out]; exact HP.out.1.tellsC hk150 HT.out.told ch (by omega) HG.out hR
          obtain ⟨N2, hN2⟩ : ∃ N, foundE (bodK m.s.now m.s.n) = N := ⟨_, rfl⟩
          have HN2 : Hid (foundE (bodK m.s.now m.s.n) = N2) := hN2
          have HTelN : Hid (Tells A2 now N2) := by
            show Tells _ _ _
            rw [← hN2, HA2.out]; exact HP.out.1.tellsN hk150 HT.out.told
          clear hN2
          have HRe : Hid (Rest (m.s.crash ch)) := Rest.crash HP.out.1.ok.nb.ok ch
          have HLe : Hid ((startL (m.s.crash ch)).length ≤ 301) := HP.out.1.startC hk150 ch
          clear HT
          go_wp2_with fail
          refine hcr.mono ?_
          rintro e w4 ⟨p4, tag4, rfl, hP4, hT4, hB4⟩
          have HP4 : Hid (P4 w D B ob tb k m G ow tm A2 q2 w4 tag4) :=
            HP.out.step (lo := 4) (hi := 4) ⟨hB4.mono HP.out.1.below.size, hT4, fun g hg _ => hB4.block g hg⟩ (by decide) (by decide)
          have HPD4 : Hid (PD w4 tag4 w.heap.size 4 (m.s.crash ch) p4) := hP4
          clear hcr hP4 hT4 hB4 HP
          generalize m.s.crash ch = sc at *
          have hOp := open_tells w4 tag4 w.heap.size sc p4 HPD4.out HRe.out HP4.out.1.below.size (now + μ) HG.out HLe.out
          clear HPD4
          go_wp2_with fail
          refine hOp.mono ?_
          rintro e w5 ⟨X, tag5, B5, p5, rfl, hX, hS5, hP5, hD5, hK5⟩
          obtain ⟨PDD, hPDD⟩ : ∃ d, d = p4.D := ⟨_, rfl⟩
          rw [← hPDD] at hD5 hK5 ⊢
          have HP5 : Hid (P4 w D B ob tb k m G ow tm A2 q2 w5 tag5) := HP4.out.step hS5 (by decide) (by decide)
          have HPD5 : Hid (PD w5 tag5 w.heap.size 4 (opnS sc (now + μ)) p5) := hP5
          have HK5 : Hid (X = 0 → BK w5 tag5 w.heap.size 4 PDD B5 (opnB sc (now + μ))) := hK5
          have HD5 : Hid (p5.D = PDD) := hD5
          clear hOp hS5 hP5 hK5 hD5 hPDD HP4
          obtain ⟨R1, hR1, hR1e⟩ := HRe.out.read HG.out
          obtain ⟨N1, hN1⟩ : ∃ N, startL sc ++ R1 = N := ⟨_, rfl⟩
          have HT1 : Hid (Tells A2 now N1) := by
            show Tells _ _ _
            rw [← hN1]; exact HTel.out R1 hR1
          have HR1 : Hid (foundE (bodK (opnS sc (now + μ)).now (opnS sc (now + μ)).n) = N1) := hR1e.trans hN1
          clear hR1 hR1e hN1
          rcases hX with rfl | rfl
          case inl =>
            have hv : bookV 0 B5 = .pointer (some ⟨B5, 0, none⟩) := rfl
            rw [hv]
            clear hv
            have ht0 := HTel.out (moreE (startL sc) (now + μ)) (List.Sublist.refl _)
            have hSp := bspans_ok w5 tag5 w.heap.size 4 PDD B5 (opnB sc (now + μ)) (HK5.out rfl) ht0.f (by have h7 := ht0.l; show (startL sc ++ moreE (startL sc) (now + μ)).length ≤ _; omega)
            have HT0 : Hid (Tells A2 now (startL sc ++ moreE (startL sc) (now + μ))) := ht0
            clear ht0
            go_wp2_with fail
            refine hSp.mono ?_
            rintro e w6 ⟨v6, rfl, hR6, hB6⟩
            obtain ⟨SB6, SO6, hE6⟩ := sps_row hR6
            have HP6 : Hid (P4 w D B ob tb k m G ow tm A2 q2 w6 tag5) := HP5.out.fresh hB6
            have HPD6 : Hid (PD w6 tag5 w.heap.size 4 (opnS sc (now + μ)) p5) := HPD5.out.later hB6
            have hTd := HT0.out.ok (by omega) hE6 HP6.out.2.2.2
            obtain ⟨s6, c6, rfl, -⟩ := hE6
            clear hSp hR6 hB6
            go_wp2_with fail
            refine hTd.mono ?_
            rintro e w7 ⟨rfl, hB7⟩
            have HP7 : Hid (P4 w D B ob tb k m G ow tm A2 q2 w7 tag5) := HP6.out.fresh hB7
            have HPD7 : Hid (PD w7 tag5 w.heap.size 4 (opnS sc (now + μ)) p5) := HPD6.out.later hB7
            clear hTd hB7 HP6 HPD6
            have hRd := tells_read w7 tag5 w.heap.size (opnS sc (now + μ)) p5 HPD7.out PDD HD5.out HR1.out
            go_wp2_with fail
            refine hRd.mono ?_
            rintro e w8 ⟨r8, EB8, EO8, rfl, hE8, hB8⟩
            have HP8 : Hid (P4 w D B ob tb k m G ow tm A2 q2 w8 tag5) := HP7.out.fresh hB8
            have hSp8 := HT1.out.spans hE8
            obtain ⟨s8, c8, rfl, -⟩ := hE8
            clear hRd hB8 HP7 HPD7
            go_wp2_with fail
            refine hSp8.mono ?_
            rintro e w9 ⟨r9, SB9, SO9, rfl, hE9, hB9⟩
            have HP9 : Hid (P4 w D B ob tb k m G ow tm A2 q2 w9 tag5) := HP8.out.fresh hB9
            have hTd9 := HT1.out.ok (by omega) hE9 HP9.out.2.2.2
            obtain ⟨s9, c9, rfl, -⟩ := hE9
            clear hSp8 hB9 HP8
            go_wp2_with fail
            refine hTd9.mono ?_
            rintro e w10 ⟨rfl, hB10⟩
            have HP10 : Hid (P4 w D B ob tb k m G ow tm A2 q2 w10 tag5) := HP9.out.fresh hB10
            obtain ⟨p10, q10, kv10, dv10, k0, k1, _, _⟩ := HP10.out.1.bk
            have hRd10 := tells_read w10 tag5 w.heap.size m.s p10 k1 D k0 HN2.out
            clear hTd9 hB10 HP9 k0 k1
            go_wp2_with fail
            refine hRd10.mono ?_
            rintro e w11 ⟨r11, EB11, EO11, rfl, hE11, hB11⟩
            have HP11 : Hid (P4 w D B ob tb k m G ow tm A2 q2 w11 tag5) := HP10.out.fresh hB11
            have hSp11 := HTelN.out.spans hE11
            obtain ⟨s11, c11, rfl, -⟩ := hE11
            clear hRd10 hB11 HP10
            go_wp2_with fail
            refine hSp11.mono ?_
            rintro e w12 ⟨r12, SB12, SO12, rfl, hE12, hB12⟩
            have HP12 : Hid (P4 w D B ob tb k m G ow tm A2 q2 w12 tag5) := HP11.out.fresh hB12
            have hTd12 := HTelN.out.ok (by omega) hE12 HP12.out.2.2.2
            obtain ⟨s12, c12, rfl, -⟩ := hE12
            clear hSp11 hB12 HP11
            go_wp2_with fail
            refine hTd12.mono ?_
            rintro e w13 ⟨rfl, hB13⟩
            have HB13 : Hid (Below w.heap.size w w13) := (HP12.out.fresh hB13).1.below
            clear hTd12 hB13 HP12
            go_wp2
            go_ret
            exact ⟨rfl, HB13.out⟩
          case inr =>
            have hv : bookV 6 B5 = .pointer none := rfl
            rw [hv]
            clear hv
            have HP7 : Hid (P4 w D B ob tb k m G ow tm A2 q2 w5 tag5) := HP5.out
            have HPD7 : Hid (PD w5 tag5 w.heap.size 4 (opnS sc (now + μ)) p5) := HPD5.out
            have hRd := tells_read w5 tag5 w.heap.size (opnS sc (now + μ)) p5 HPD7.out PDD HD5.out HR1.out
            go_wp2_with fail
            refine hRd.mono ?_
            rintro e w8 ⟨r8, EB8, EO8, rfl, hE8, hB8⟩
            have HP8 : Hid (P4 w D B ob tb k m G ow tm A2 q2 w8 tag5) := HP7.out.fresh hB8
            have hSp8 := HT1.out.spans hE8
            obtain ⟨s8, c8, rfl, -⟩ := hE8
            clear hRd hB8 HP7 HPD7
            go_wp2_with fail
            refine hSp8.mono ?_
            rintro e w9 ⟨r9, SB9, SO9, rfl, hE9, hB9⟩
            have HP9 : Hid (P4 w D B ob tb k m G ow tm A2 q2 w9 tag5) := HP8.out.fresh hB9
            have hTd9 := HT1.out.ok (by omega) hE9 HP9.out.2.2.2
            obtain ⟨s9, c9, rfl, -⟩ := hE9
            clear hSp8 hB9 HP8
            go_wp2_with fail
            refine hTd9.mono ?_
            rintro e w10 ⟨rfl, hB10⟩
            have HP10 : Hid (P4 w D B ob tb k m G ow tm A2 q2 w10 tag5) := HP9.out.fresh hB10
            obtain ⟨p10, q10, kv10, dv10, k0, k1, _, _⟩ := HP10.out.1.bk
            have hRd10 := tells_read w10 tag5 w.heap.size m.s p10 k1 D k0 HN2.out
            clear hTd9 hB10 HP9 k0 k1
            go_wp2_with fail
            refine hRd10.mono ?_
            rintro e w11 ⟨r11, EB11, EO11, rfl, hE11, hB11⟩
            have HP11 : Hid (P4 w D B ob tb k m G ow tm A2 q2 w11 tag5) := HP10.out.fresh hB11
            have hSp11 := HTelN.out.spans hE11
            obtain ⟨s11, c11, rfl, -⟩ := hE11
            clear hRd10 hB11 HP10
            go_wp2_with fail
            refine hSp11.mono ?_
            rintro e w12 ⟨r12, SB12, SO12, rfl, hE12, hB12⟩
            have HP12 : Hid (P4 w D B ob tb k m G ow tm A2 q2 w12 tag5) := HP11.out.fresh hB12
            have hTd12 := HTelN.out.ok (by omega) hE12 HP12.out.2.2.2
            obtain ⟨s12, c12, rfl, -⟩ := hE12
            clear hSp11 hB12 HP11
            go_wp2_with fail
            refine hTd12.mono ?_
            rintro e w13 ⟨rfl, hB13⟩
            have HB13 : Hid (Below w.heap.size w w13) := (HP12.out.fresh hB13).1.below
            clear hTd12 hB13 HP12
            go_wp2
            go_ret
            exact ⟨rfl, HB13.out⟩
    have hltI : (k : Int) < (l.length : Int) := by omega
    rcases ha with rfl | hnil
    case inr => rw [hnil] at hlt; simp at hlt
    have hBl := hT.run.below
    obtain ⟨c0, c1, c2, c3, c4, c5⟩ := (HD.out.later hBl).cell k hlt
    have hok := (HD.out.ok k hlt)
    have h5 := HL5.out l[k] (List.getElem_mem hlt)
    have HBt : Hid (Bts w l[k].vb l[k].b) := hok.bt
    have hbb : isBytes l[k].b := by obtain ⟨_, _, _, _, _, _, _, hb, _⟩ := hok.bt; exact hb
    obtain ⟨va, vc, hvv, _⟩ := bts_src hok.bt
    generalize l[k] = d at *
    obtain ⟨d0, d1, d2, d3, d4, d5, d6⟩ := d
    simp only at c0 c1 c2 c3 c4 c5 hvv h5
    subst hvv
    have hn1 := hok.t1
    have hn2 := hok.s1
    have hn3 := hok.a1
    have hn4 := hok.b1
    have ho := hok.o1
    simp only at hn1 hn2 hn3 hn4 ho HBt
    have HBB : Hid (isBytes d6) := hbb
    clear hok hbb
    have hnow0 := hT.told.fx.now0
    have HT : Hid (TI w D B ob tb k m G ow tm now A vq wx tag) := hT
    clear hT
    obtain ⟨δ, hbits⟩ : ∃ δ, bits .and .i64 d4 3 = δ := ⟨_, rfl⟩
    have hδ := and_three d4
    rw [hbits] at hδ
    obtain ⟨hδ0, hδ3⟩ := hδ
    obtain ⟨κ, hκ⟩ : ∃ κ : Nat, d3 % 6 = (κ : Int) := ⟨(d3 % 6).toNat, by omega⟩
    have hκ6 : κ < 6 := by omega
    have hκI : (κ : Int) < 6 := by omega
    have hk150 : k ≤ 150 := by omega
    have C1 : wx.cell? ⟨ob, κ, none⟩ = some (.int .i64 (ow κ)) := HT.out.a1.cell hκ6
    have C2 : wx.cell? ⟨tb, κ, none⟩ = some (.int .i64 (tm κ)) := HT.out.a2.cell hκ6
    have F1 := HT.out.a1.frozen κ
    have K1 : ((κ : Int) % 2) = ka κ := rfl
    have K2 : ((κ : Int) / 2) = kb κ := rfl
    have K3 : Int.tmod (κ : Int) 2 = ka κ := by rw [Int.tmod_eq_emod_of_nonneg (by omega)]; rfl
    have K4 : Int.tdiv (κ : Int) 2 = kb κ := by rw [Int.tdiv_eq_ediv_of_nonneg (by omega)]; rfl
    obtain ⟨K5, K6⟩ := ka_in κ
    obtain ⟨K7, K8⟩ := kb_in hκ6
    have HTN : Hid (TI w D B ob tb k m G ow tm (now + δ) A vq wx tag) := HT.out.now' (by omega)
    by_cases h2 : d0 ≤ 2
    · by_cases hc : ow κ = 0 ∨ (ow κ = -1 ∧ tm κ < now + δ)
      · as_aux_lemma =>
          have HC : Hid (ow κ = 0 ∨ (ow κ = -1 ∧ tm κ < now + δ)) := hc
          obtain ⟨wy, hwy⟩ : ∃ wy, wy = wx.setCell ⟨ob, κ, none⟩ (.int .i64 (-1)) := ⟨_, rfl⟩
          have HP1 : Hid (Run w 400 D B k m G wy tag ∧ Arr wy tag w.heap.size ob 656 (upd ow κ (-1)) ∧ Arr wy tag w.heap.size tb 672 tm ∧ AskR wy tag w.heap.size vq A) := by
            rw [hwy]; exact TI.put1 HTN.out.run HTN.out.a1 HTN.out.a2 HTN.out.row hκ6 (-1) rfl
          have C3 : wy.cell? ⟨tb, κ, none⟩ = some (.int .i64 (tm κ)) := HP1.out.2.2.1.cell hκ6
          have F3 := HP1.out.2.2.1.frozen κ
          have HWY : Hid (wy = wx.setCell ⟨ob, κ, none⟩ (.int .i64 (-1))) := hwy
          obtain ⟨wz, hwz⟩ : ∃ wz, wz = wy.setCell ⟨tb, κ, none⟩ (.int .i64 (now + δ)) := ⟨_, rfl⟩
          have HP2 : Hid (Run w 400 D B k m G wz tag ∧ Arr wz tag w.heap.size ob 656 (upd ow κ (-1)) ∧ Arr wz tag w.heap.size tb 672 (upd tm κ (now + δ)) ∧ AskR wz tag w.heap.size vq A) := by
            rw [hwz]; exact TI.put2 HP1.out.1 HP1.out.2.1 HP1.out.2.2.1 HP1.out.2.2.2 hκ6 (now + δ)
          have HWZ : Hid (wz = wy.setCell ⟨tb, κ, none⟩ (.int .i64 (now + δ))) := hwz
          have hb1 := HP1.out.1.below
          obtain ⟨e0, e1, e2, e3, e4, e5⟩ := (HD.out.later hb1).cell k hlt
          clear hwy hwz hb1
          have hok := en_ok 2 (now + δ) (1 + d2 % 3) (ka κ) (kb κ) (by omega) (by omega) (by omega) (by omega) (by omega)
          have hG := run_grant HP2.out.1 hk150 (now + δ) (1 + d2 % 3) (ka κ) (kb κ) hok
          have TG := Told.grant HP2.out.1.ok HP2.out.1.sf HTN.out.told hκ6 HC.out (by omega) (by omega) hok
          obtain ⟨m', hm'⟩ : ∃ m', m' = m.put ⟨2, now + δ, 1 + d2 % 3, ka κ, kb κ⟩ := ⟨_, rfl⟩
          obtain ⟨G', hG'⟩ : ∃ G', G' = m.putG ⟨2, now + δ, 1 + d2 % 3, ka κ, kb κ⟩ G := ⟨_, rfl⟩
          obtain ⟨X, hX⟩ : ∃ X, X = m.putE ⟨2, now + δ, 1 + d2 % 3, ka κ, kb κ⟩ := ⟨_, rfl⟩
          rw [← hm', ← hG', ← hX] at hG TG
          have HTG : Hid (Told G' m'.D (if X = 0 then upd ow κ (1 + d2 % 3) else upd ow κ (-1)) (upd tm κ (now + δ)) (now + δ) A) := TG
          clear hok hm' hG' hX TG
          rcases hc with z0 | ⟨z1, z2⟩
          all_goals
            go_upto_region 21 with fail
            rw [← HWY.out]
            clear c0 c1 c2 c3 c4 c5 C1 C2 F1
            go_upto_region 22 with fail
            rw [← HWZ.out]
            go_wp2_with fail
            refine (by exact hG : Calls _ _ _ _ _).mono ?_
            rintro e w8 ⟨rfl, tag8, hS8, hR8⟩
            have HP8 : Hid (Run w 400 D B (k + 1) m' G' w8 tag8 ∧ Arr w8 tag8 w.heap.size ob 656 (upd ow κ (-1)) ∧ Arr w8 tag8 w.heap.size tb 672 (upd tm κ (now + δ)) ∧ AskR w8 tag8 w.heap.size vq A) :=
              ⟨hR8, HP2.out.2.1.step hS8 (by decide), HP2.out.2.2.1.step hS8 (by decide), HP2.out.2.2.2.step hS8 (by decide)⟩
            clear hG hS8 hR8
            clear e0 e1 e2 e3 e4 e5 C3 F3
            by_cases hx : X = 0
            · have C8 := HP8.out.2.1.cell hκ6
              have F8 := HP8.out.2.1.frozen κ
              have HT9 : Hid (TI w D B ob tb (k + 1) m' G' (upd ow κ (1 + d2 % 3)) (upd tm κ (now + δ)) (now + δ) A vq (w8.setCell ⟨ob, κ, none⟩ (.int .i64 (1 + d2 % 3))) tag8) := by
                obtain ⟨r1, r2, r3, r4⟩ := TI.put1 HP8.out.1 HP8.out.2.1 HP8.out.2.2.1 HP8.out.2.2.2 hκ6 (1 + d2 % 3) (upd_upd ow κ (-1) (1 + d2 % 3)).symm
                have ht := HTG.out
                rw [if_pos hx] at ht
                exact ⟨r1, ht, r2, r3, r4⟩
              go_wp2
              go_roundg (l.length - (k + 1))
              case rel => exact ⟨k + 1, now + δ, m', G', _, _, A, vq, tag8, by omega, by go_num, rfl, rfl, by omega, by omega, HT9.out⟩
              case measure => omega
            · have hx' : (X == 0) = false := by simpa using hx
              have HT9 : Hid (TI w D B ob tb (k + 1) m' G' (upd ow κ (-1)) (upd tm κ (now + δ)) (now + δ) A vq w8 tag8) := by
                have ht := HTG.out
                rw [if_neg hx] at ht
                exact ⟨HP8.out.1, ht, HP8.out.2.1, HP8.out.2.2.1, HP8.out.2.2.2⟩
              go_wp2
              go_roundg (l.length - (k + 1))
              case rel => exact ⟨k + 1, now + δ, m', G', _, _, A, vq, tag8, by omega, by go_num, rfl, rfl, by omega, by omega, HT9.out⟩
              case measure => omega
      · have z0 : ow κ ≠ 0 := fun h => hc (.inl h)
        have HT9 : Hid (TI w D B ob tb (k + 1) m G ow tm (now + δ) A vq wx tag) := HTN.out.next
        have z0' : (ow κ != 0) = true := by simpa using z0
        by_cases z1 : ow κ = -1
        · have z2 : ¬ tm κ < now + δ := fun h => hc (.inr ⟨z1, h⟩)
          clear hc
          go_wp2
          go_roundg (l.length - (k + 1))
          case rel => exact ⟨k + 1, now + δ, m, G, _, _, A, vq, tag, by omega, by go_num, rfl, rfl, by omega, by omega, HT9.out⟩
          case measure => omega
        · have z1' : (ow κ == -1) = false := by simpa using z1
          clear hc
          go_wp2
          go_roundg (l.length - (k + 1))
          case rel => exact ⟨k + 1, now + δ, m, G, _, _, A, vq, tag, by omega, by go_num, rfl, rfl, by omega, by omega, HT9.out⟩
          case measure => omega
    have h2I : ¬ d0 ≤ 2 := h2
    by_cases h4 : d0 ≤ 4
    · by_cases hp : 0 < ow κ
      · obtain ⟨hf1, hf2⟩ := HTN.out.told.fx.ow3 κ hκ6
        have hsE : (⟨IntKind.u32.wrap (ow κ), IntKind.u32.wrap (ka κ), IntKind.i64.wrap (kb κ), tm κ, now + δ, false⟩ : Sp) = askS (ow κ) κ (tm κ) (now + δ) := by
          unfold askS
          rw [IntKind.wrap_u32, IntKind.wrap_u32, i64_id _ (by omega) (by omega), Int.emod_eq_of_lt (by omega) (by omega), Int.emod_eq_of_lt (by omega) (by omega)]
        obtain ⟨qa, qc, a5, c5', w5, tag5, hvq, hr5, hP5⟩ := (HTN.out.p4.fresh (Below.refl _ wx).drew).push (by omega) ⟨IntKind.u32.wrap (ow κ), IntKind.u32.wrap (ka κ), IntKind.i64.wrap (kb κ), tm κ, now + δ, false⟩
        simp only at hr5
        rw [hsE] at hP5
        subst hvq
        have HP5 : Hid (P4 w D B ob tb k m G ow tm (A ++ [askS (ow κ) κ (tm κ) (now + δ)]) (.slice a5 (A.length + 1) c5') w5 tag5) := hP5
        have CD1 : wx.drew.cell? ⟨ob, κ, none⟩ = some (.int .i64 (ow κ)) := C1
        have CD2 : wx.drew.cell? ⟨tb, κ, none⟩ = some (.int .i64 (tm κ)) := C2
        have C5 := HP5.out.2.1.cell hκ6
        have F5 := HP5.out.2.1.frozen κ
        obtain ⟨w6, hw6⟩ : ∃ w6, w6 = w5.setCell ⟨ob, κ, none⟩ (.int .i64 (-2)) := ⟨_, rfl⟩
        have HQ : Hid (TI w D B ob tb k m G (upd ow κ (-2)) tm (now + δ) (A ++ [askS (ow κ) κ (tm κ) (now + δ)]) (.slice a5 (A.length + 1) c5') w6 tag5) := by
          obtain ⟨r1, r2, r3, r4⟩ := TI.put1 HP5.out.1 HP5.out.2.1 HP5.out.2.2.1 HP5.out.2.2.2 hκ6 (-2) rfl
          rw [hw6]
          exact ⟨r1, HTN.out.told.leave hκ6 hp, r2, r3, r4⟩
        have C6 : w6.cell? ⟨ob, κ, none⟩ = some (.int .i64 (-2)) := by
          have := HQ.out.a1.cell hκ6
          rwa [upd_same] at this
        have HW6 : Hid (w6 = w5.setCell ⟨ob, κ, none⟩ (.int .i64 (-2))) := hw6
        have hOW : (upd ow κ (-2)) κ = -2 := upd_same ow κ (-2)
        obtain ⟨A', hA'⟩ : ∃ A', A' = A ++ [askS (ow κ) κ (tm κ) (now + δ)] := ⟨_, rfl⟩
        have hAl' : A'.length = A.length + 1 := by rw [hA']; simp
        rw [← hA'] at HP5 HQ
        clear hP5 hw6 hA' HT hsE
        go_upto_region 26 with fail
        go_region_law (refine step_app_run rfl (.tmp 129) (.tmp 146) 57 rfl (.slice qa A.length qc) (.slice (some ⟨wx.drew.heap.size, 0, none⟩) 1 1) (by rfl) (by rfl) (by exact hr5) ?_)
        all_goals
          clear c0 c1 c2 c3 c4 c5 C1 C2 F1 hr5 CD1 CD2
          go_upto_region 28 with fail
          rw [← HW6.out]
          have hok := en_ok 3 (now + δ) 0 (ka κ) (kb κ) (by omega) (by omega) (by omega) (by omega) (by omega)
          have hG := run_release HQ.out.run hk150 (now + δ) (ka κ) (kb κ) hok
          have TR := Told.release HQ.out.run.ok HQ.out.run.sf HQ.out.told hκ6 hOW hok
          obtain ⟨m', hm'⟩ : ∃ m', m' = m.put ⟨3, now + δ, 0, ka κ, kb κ⟩ := ⟨_, rfl⟩
          obtain ⟨G', hG'⟩ : ∃ G', G' = m.putG ⟨3, now + δ, 0, ka κ, kb κ⟩ G := ⟨_, rfl⟩
          obtain ⟨X, hX⟩ : ∃ X, X = m.putE ⟨3, now + δ, 0, ka κ, kb κ⟩ := ⟨_, rfl⟩
          rw [← hm', ← hG', ← hX] at hG TR
          obtain ⟨TR0, TR1⟩ := TR
          have HTR0 : Hid (X = 0 → Told G' m'.D (upd (upd ow κ (-2)) κ (-1)) (upd tm κ (now + δ)) (now + δ) A') := TR0
          have HTR1 : Hid (X ≠ 0 → Told G' m'.D (upd ow κ (-2)) tm (now + δ) A') := TR1
          clear hok hm' hG' hX TR0 TR1
          go_wp2_with fail
          refine (by exact hG : Calls _ _ _ _ _).mono ?_
          rintro e w8 ⟨rfl, tag8, hS8, hR8⟩
          have HP8 : Hid (Run w 400 D B (k + 1) m' G' w8 tag8 ∧ Arr w8 tag8 w.heap.size ob 656 (upd ow κ (-2)) ∧ Arr w8 tag8 w.heap.size tb 672 tm ∧ AskR w8 tag8 w.heap.size (.slice a5 (A.length + 1) c5') A') :=
            ⟨hR8, HQ.out.a1.step hS8 (by decide), HQ.out.a2.step hS8 (by decide), HQ.out.row.step hS8 (by decide)⟩
          clear hG hS8 hR8
          by_cases hx : X = 0
          · have C8 := HP8.out.2.1.cell hκ6
            have F8 := HP8.out.2.1.frozen κ
            obtain ⟨w9, hw9⟩ : ∃ w9, w9 = w8.setCell ⟨ob, κ, none⟩ (.int .i64 (-1)) := ⟨_, rfl⟩
            have HP9 : Hid (Run w 400 D B (k + 1) m' G' w9 tag8 ∧ Arr w9 tag8 w.heap.size ob 656 (upd (upd ow κ (-2)) κ (-1)) ∧ Arr w9 tag8 w.heap.size tb 672 tm ∧ AskR w9 tag8 w.heap.size (.slice a5 (A.length + 1) c5') A') := by
              rw [hw9]; exact TI.put1 HP8.out.1 HP8.out.2.1 HP8.out.2.2.1 HP8.out.2.2.2 hκ6 (-1) rfl
            have C9 := HP9.out.2.2.1.cell hκ6
            have F9 := HP9.out.2.2.1.frozen κ
            have HT9 : Hid (TI w D B ob tb (k + 1) m' G' (upd (upd ow κ (-2)) κ (-1)) (upd tm κ (now + δ)) (now + δ) A' (.slice a5 (A.length + 1) c5') (w9.setCell ⟨tb, κ, none⟩ (.int .i64 (now + δ))) tag8) := by
              obtain ⟨r1, r2, r3, r4⟩ := TI.put2 HP9.out.1 HP9.out.2.1 HP9.out.2.2.1 HP9.out.2.2.2 hκ6 (now + δ)
              exact ⟨r1, HTR0.out hx, r2, r3, r4⟩
            have HW9 : Hid (w9 = w8.setCell ⟨ob, κ, none⟩ (.int .i64 (-1))) := hw9
            clear hw9
            go_upto_region 30 with fail
            rw [← HW9.out]
            go_wp2
            go_roundg (l.length - (k + 1))
            case rel => exact ⟨k + 1, now + δ, m', G', _, _, _, _, tag8, by omega, by go_num, rfl, rfl, by omega, by omega, HT9.out⟩
            case measure => omega
          · have hx' : (X == 0) = false := by simpa using hx
            have HT9 : Hid (TI w D B ob tb (k + 1) m' G' (upd ow κ (-2)) tm (now + δ) A' (.slice a5 (A.length + 1) c5') w8 tag8) := ⟨HP8.out.1, HTR1.out hx, HP8.out.2.1, HP8.out.2.2.1, HP8.out.2.2.2⟩
            go_wp2
            go_roundg (l.length - (k + 1))
            case rel => exact ⟨k + 1, now + δ, m', G', _, _, _, _, tag8, by omega, by go_num, rfl, rfl, by omega, by omega, HT9.out⟩
            case measure => omega
      · by_cases hm2 : ow κ = -2
        · have HQ : Hid (TI w D B ob tb k m G ow tm (now + δ) A vq wx tag) := HTN
          have hOW : ow κ = -2 := hm2
          have hok := en_ok 3 (now + δ) 0 (ka κ) (kb κ) (by omega) (by omega) (by omega) (by omega) (by omega)
          have hG := run_release HQ.out.run hk150 (now + δ) (ka κ) (kb κ) hok
          have TR := Told.release HQ.out.run.ok HQ.out.run.sf HQ.out.told hκ6 hOW hok
          obtain ⟨m', hm'⟩ : ∃ m', m' = m.put ⟨3, now + δ, 0, ka κ, kb κ⟩ := ⟨_, rfl⟩
          obtain ⟨G', hG'⟩ : ∃ G', G' = m.putG ⟨3, now + δ, 0, ka κ, kb κ⟩ G := ⟨_, rfl⟩
          obtain ⟨X, hX⟩ : ∃ X, X = m.putE ⟨3, now + δ, 0, ka κ, kb κ⟩ := ⟨_, rfl⟩
          rw [← hm', ← hG', ← hX] at hG TR
          obtain ⟨TR0, TR1⟩ := TR
          have HTR0 : Hid (X = 0 → Told G' m'.D (upd ow κ (-1)) (upd tm κ (now + δ)) (now + δ) A) := TR0
          have HTR1 : Hid (X ≠ 0 → Told G' m'.D ow tm (now + δ) A) := TR1
          clear hok hm' hG' hX TR0 TR1
          go_wp2_with fail
          refine (by exact hG : Calls _ _ _ _ _).mono ?_
          rintro e w8 ⟨rfl, tag8, hS8, hR8⟩
          have HP8 : Hid (Run w 400 D B (k + 1) m' G' w8 tag8 ∧ Arr w8 tag8 w.heap.size ob 656 ow ∧ Arr w8 tag8 w.heap.size tb 672 tm ∧ AskR w8 tag8 w.heap.size vq A) :=
            ⟨hR8, HQ.out.a1.step hS8 (by decide), HQ.out.a2.step hS8 (by decide), HQ.out.row.step hS8 (by decide)⟩
          clear hG hS8 hR8
          by_cases hx : X = 0
          · have C8 := HP8.out.2.1.cell hκ6
            have F8 := HP8.out.2.1.frozen κ
            obtain ⟨w9, hw9⟩ : ∃ w9, w9 = w8.setCell ⟨ob, κ, none⟩ (.int .i64 (-1)) := ⟨_, rfl⟩
            have HP9 : Hid (Run w 400 D B (k + 1) m' G' w9 tag8 ∧ Arr w9 tag8 w.heap.size ob 656 (upd ow κ (-1)) ∧ Arr w9 tag8 w.heap.size tb 672 tm ∧ AskR w9 tag8 w.heap.size vq A) := by
              rw [hw9]; exact TI.put1 HP8.out.1 HP8.out.2.1 HP8.out.2.2.1 HP8.out.2.2.2 hκ6 (-1) rfl
            have C9 := HP9.out.2.2.1.cell hκ6
            have F9 := HP9.out.2.2.1.frozen κ
            have HT9 : Hid (TI w D B ob tb (k + 1) m' G' (upd ow κ (-1)) (upd tm κ (now + δ)) (now + δ) A vq (w9.setCell ⟨tb, κ, none⟩ (.int .i64 (now + δ))) tag8) := by
              obtain ⟨r1, r2, r3, r4⟩ := TI.put2 HP9.out.1 HP9.out.2.1 HP9.out.2.2.1 HP9.out.2.2.2 hκ6 (now + δ)
              exact ⟨r1, HTR0.out hx, r2, r3, r4⟩
            have HW9 : Hid (w9 = w8.setCell ⟨ob, κ, none⟩ (.int .i64 (-1))) := hw9
            clear hw9
            go_upto_region 30 with fail
            rw [← HW9.out]
            go_wp2
            go_roundg (l.length - (k + 1))
            case rel => exact ⟨k + 1, now + δ, m', G', _, _, _, _, tag8, by omega, by go_num, rfl, rfl, by omega, by omega, HT9.out⟩
            case measure => omega
          · have hx' : (X == 0) = false := by simpa using hx
            have HT9 : Hid (TI w D B ob tb (k + 1) m' G' ow tm (now + δ) A vq w8 tag8) := ⟨HP8.out.1, HTR1.out hx, HP8.out.2.1, HP8.out.2.2.1, HP8.out.2.2.2⟩
            go_wp2
            go_roundg (l.length - (k + 1))
            case rel => exact ⟨k + 1, now + δ, m', G', _, _, _, _, tag8, by omega, by go_num, rfl, rfl, by omega, by omega, HT9.out⟩
            case measure => omega
        · have z1' : (ow κ == -2) = false := by simpa using hm2
          have HT9 : Hid (TI w D B ob tb (k + 1) m G ow tm (now + δ) A vq wx tag) := HTN.out.next
          go_wp2
          go_roundg (l.length - (k + 1))
          case rel => exact ⟨k + 1, now + δ, m, G, _, _, A, vq, tag, by omega, by go_num, rfl, rfl, by omega, by omega, HT9.out⟩
          case measure => omega
    have h4I : ¬ d0 ≤ 4 := h4
    by_cases h6 : d0 = 6
    · subst h6
      have hG := run_outcomes HTN.out.run hk150 (.slice va d6.length vc) d6 (HBt.out.later hBl) h5
      go_wp2_with fail
      refine (by exact hG : Calls _ _ _ _ _).mono ?_
      rintro e w8 ⟨rfl, tag8, hS8, hR8⟩
      have HT9 : Hid (TI w D B ob tb (k + 1) ⟨m.s.add d6, m.t, m.L, m.D⟩ G ow tm (now + δ) A vq w8 tag8) :=
        ⟨hR8, HTN.out.told, HTN.out.a1.step hS8 (by decide), HTN.out.a2.step hS8 (by decide), HTN.out.row.step hS8 (by decide)⟩
      clear hG hS8 hR8
      go_wp2
      go_roundg (l.length - (k + 1))
      case rel => exact ⟨k + 1, now + δ, _, G, _, _, A, vq, tag8, by omega, by go_num, rfl, rfl, by omega, by omega, HT9.out⟩
      case measure => omega
    · have h6I : (d0 == 6) = false := by simpa using h6
      have HT9 : Hid (TI w D B ob tb (k + 1) m G ow tm (now + δ) A vq wx tag) := HTN.out.next
      go_wp2
      go_roundg (l.length - (k + 1))
      case rel => exact ⟨k + 1, now + δ, m, G, _, _, A, vq, tag, by omega, by go_num, rfl, rfl, by omega, by omega, HT9.out⟩
      case measure => omega

set_option maxRecDepth 100000 in
theorem lifted (os : Os) (started : os.Started) (H : Type) (enc : TypeId × Value → H) :
    ReturnsInHanded {} Tryz.checked os 4 .any (Rows.bookTellsSpec.pre6 enc Tryz.prog Tryz.f4 Rows.bookTellsRow.domain false) (Rows.bookTellsSpec.post enc Tryz.prog Tryz.f4 false true false false) := by
  refine returnsInHanded_of_change_sized (C := Tryz.checked) own started (by kernel_rfl) Tryz.func4
    (ChangeSpec.witness6 (enc := enc) (C := Tryz.checked) false ⟨#[], #[.slice none 0 0, .slice none 0 0, .int .i64 0], []⟩ 8 (by kernel_rfl) (by kernel_rfl) (by kernel_rfl) (by kernel_rfl)) ?_
  intro W base args ds gs before hval0 hW hcnd hsz0 _
  have hval : ∀ (j : Nat) t v, Tryz.f4.params[j]? = some t → args[j]? = some v → Value.okWide Tryz.prog W .any base t v := hval0
  have hsz : ∀ n ∈ DataW.weightsEach Tryz.prog (Tryz.f4.params.toList ++ Rows.bookTellsSpec.plain.varTypes Tryz.prog) (ds ++ gs), n ≤ reachBytes := fun n hn => by simpa using List.all_eq_true.1 hsz0 n hn
  have hW' := hW
  obtain ⟨p, q, hA0, hV, rfl, hfz, hnd⟩ := hW
  have hA : DataW.TrodAll enc Tryz.prog W 0 (fun _ => true) true Tryz.f4.params.toList args.toList ds p := hA0
  rw [Tryz.params4] at hA hval hsz
  obtain ⟨v0, vs0, d0, ds0, p0, q0, hargs, rfl, rfl, h0, r0⟩ := trodAll_cons hA
  obtain ⟨v1, vs1, d1, ds1, p1, q1, rfl, rfl, rfl, h1, r1⟩ := trodAll_cons r0
  obtain ⟨v2, vs2, d2, ds2, p2, q2, rfl, rfl, rfl, h2, r2⟩ := trodAll_cons r1
  obtain ⟨rfl, rfl, rfl⟩ := trodAll_nil r2
  obtain rfl : args = #[v0, v1, v2] := by cases args; simp_all
  obtain ⟨rfl, rfl⟩ := trodVars_none hV
  have lt0 : ∀ x ∈ p0, x.block < W.heap.size := by obtain ⟨m, hm⟩ := h0; exact DataW.trod_lt m _ _ _ hm
  have V0 := viewDd (hval 0 22 v0 rfl rfl) h0 (fun n hn => hsz n (DataW.weights_mem_each (j := 0) rfl rfl n hn))
  have lt1 : ∀ x ∈ p1, x.block < W.heap.size := by obtain ⟨m, hm⟩ := h1; exact DataW.trod_lt m _ _ _ hm
  have V1 := view26 (hval 1 39 v1 rfl rfl) h1 (fun n hn => hsz n (DataW.weights_mem_each (j := 1) rfl rfl n hn))
  have lt2 : ∀ x ∈ p2, x.block < W.heap.size := by obtain ⟨m, hm⟩ := h2; exact DataW.trod_lt m _ _ _ hm
  have V2 := view3 (hval 2 3 v2 rfl rfl) h2 (fun n hn => hsz n (DataW.weights_mem_each (j := 2) rfl rfl n hn))
  clear hA0 hval0 hsz0 hsz
  refine (walk v0 v1 v2 W V0 V1 V2).mono fun e W' ⟨he, bel⟩ => ?_
  subst he
  exact ⟨_, rfl, _, _, _, [], _, [], hW', trodAll_mk1 (shut_bool Tryz.underlying4 _), (trodAll_cons_mk (Below.trod laidOut (by kernel_rfl) (of_decide_eq_true (by kernel_rfl)) h0 bel lt0) (trodAll_cons_mk (Below.trod laidOut (by kernel_rfl) (of_decide_eq_true (by kernel_rfl)) h1 bel lt1) (trodAll_cons_mk (Below.trod laidOut (by kernel_rfl) (of_decide_eq_true (by kernel_rfl)) h2 bel lt2) trodAll_mk0))), rfl, bel.frame _, fun h => by cases h⟩

theorem over : Rows.bookTellsRow.holds Tryz.pinned (OpenSpec.ofChange Rows.bookTellsSpec) :=
  OpenClaim.holds_of_wide 4 Tryz.f4 rfl rfl rfl rfl rfl rfl rfl ⟨rfl, rfl, rfl, rfl, rfl⟩ rfl rfl rfl rfl rfl (by kernel_rfl) Tryz.func4 (by kernel_rfl)
    (of_decide_eq_true (by kernel_rfl)) (by unfold Func.isWrapper; first | (rw [if_pos (by decide +kernel)]; kernel_rfl) | (rw [if_neg (by decide +kernel)]; exact ⟨rfl, rfl⟩))
    (fun os started H enc _ => lifted os started H enc)

end Go.Proofs.YtafkkehcacdodaaGreat.bookTells
namespace Go.Proofs.YtafkkehcacdodaaGreat
theorem bookTells_holds : Rows.BookTellsSaid := bookTells.over
#print axioms bookTells_holds
end Go.Proofs.YtafkkehcacdodaaGreat
