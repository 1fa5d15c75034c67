/- StrandTwice: opened twice a strand tells the same, and writes nothing; its records are those of its sectors, one behind the other, and its segments count them all. -/
import Derived.Test.YtlgkndebhafliabM20
import Derived.Test.YtlgkndebhafliabM12
import Derived.Test.YtlgkndebhafliabRows
set_option maxRecDepth 100000
namespace Go.Proofs.Ytlgkndebhafliab.strandTwice
open Go.ChangeShapes Go.WideShapes Go.ChangeAt Go.RowKit
attribute [local go_sem ↓] Go.wp_at_zero Go.wp_at_succ

/-- Between two deeds. -/
structure Tw (w : World) (l : List De) (D S k : Nat) (s : St) (p : PL) (t : Sd) (q : SL) (tag : Nat → Nat) (wr : World) : Prop where
  pd : PD wr tag w.heap.size 1 s p
  po : PO wr tag w.heap.size 2 D t q
  hD : p.D = D
  hS : q.S = S
  ok : t.Ok s.n
  few : Few s 40 k
  outs : s.outs.length ≤ sumD l k
  recs : t.recs.length ≤ k
  z : ∀ j, j < w.heap.size → tag j = 0
  below : Below w.heap.size w wr

/-- The strand and the disk behind a step. -/
theorem Tw.go {w wr w' : World} {l : List De} {D S k : Nat} {s s' : St} {p p' : PL} {t t' : Sd} {q q' : SL} {tag tag' : Nat → Nat} (h : Tw w l D S k s p t q tag wr) (hp : PD w' tag' w.heap.size 1 s' p') (hq : PO w' tag' w.heap.size 2 D t' q') (hD : p'.D = D) (hS : q'.S = S)
    (hst : Step2 tag tag' w.heap.size 1 2 wr w') (hok : t'.Ok s'.n) (hf : Few s' 40 (k + 1)) (ho : s'.outs.length ≤ sumD l (k + 1)) (hr : t'.recs.length ≤ t.recs.length + 1) : Tw w l D S (k + 1) s' p' t' q' tag' w' :=
  ⟨hp, hq, hD, hS, hok, hf, ho, by have := h.recs; omega, fun j hj => by rw [hst.tags j (Nat.lt_of_lt_of_le hj h.below.size)]; exact h.z j hj, h.below.trans hst.below⟩

theorem dee_any {w wr : World} {v : Value} {B O : Nat} {l : List De} (h : Dees w v B O l) (hb : Below w.heap.size w wr) {tag : Nat → Nat} (ht : ∀ j, j < w.heap.size → tag j = 0) (i : Nat) (hi : i < l.length) : Bts wr l[i].vb l[i].b ∧ (l[i].b ≠ [] → Held wr tag l[i].vb l[i].b) := by
  have h0 := (h.ok i hi).bt
  refine ⟨h0.later hb, fun hne => ⟨h0.later hb, fun g hg => ?_⟩⟩
  have hlt := bts_lt h0 hne g hg
  exact ⟨ht g hlt, Nat.lt_of_lt_of_le hlt hb.size⟩

set_option maxHeartbeats 16000000 in
theorem walk (v0 v1 : Value) (w : World) (V0 : IsDees w v0) (V1 : IsBts w v1) : Calls Try.prog 3 #[v0, v1] w fun e w' => e = .returned (.bool true) ∧ Below w.heap.size w w' := by
  obtain ⟨B, O, l, hDl⟩ := V0
  have HD : Hid (Dees w v0 B O l) := hDl
  obtain ⟨a, cap, rfl, hl, hm, ha, _⟩ := hDl
  obtain ⟨ch, hch, _⟩ := V1
  have HCh : Hid (Bts w v1 ch) := hch
  obtain ⟨a1, cap1, rfl, hl1, hm1, _⟩ := bts_src hch
  clear hch
  unfold maxLen at hm hm1
  go_enter Try.func3, Try.ntmps3
  go_wp2_with (go_at_call 4; refine (awake8_ok _).mono ?_; rintro e w1 ⟨rfl, hB1⟩)
  refine (room8_ok w1 _ B O l (HD.out.later hB1)).mono ?_
  rintro e w1' ⟨rfl, hx⟩
  rw [hx]
  clear hx
  by_cases hroom : roomD l = true
  case neg =>
    have hr' : roomD l = false := by simpa using hroom
    rw [hr']
    clear hroom hr'
    go_wp2
    go_ret
    exact ⟨rfl, hB1⟩
  obtain ⟨hl200, _, hsum⟩ := room_few hroom
  rw [hroom]
  clear hroom
  by_cases hbig : 1000 < ch.length
  · have hbI : (1000 : Int) < (ch.length : Int) := by omega
    go_wp2_with fail
    go_ret
    exact ⟨rfl, hB1⟩
  have hbI : ¬ (1000 : Int) < (ch.length : Int) := by omega
  go_wp2_with fail
  refine (both_ok w1 (fun _ => 0) w.heap.size 1 3 40 40 rfl hB1.size (by omega) (by omega)).mono ?_
  rintro e w2 ⟨p, pm, tag2, rfl, hP2, _, hT2, hB2⟩
  have hB02 := hB1.trans (hB2.mono hB1.size)
  have HO := open_ok w2 tag2 w.heap.size 1 2 (by omega) _ p hP2 hB02.size
  rw [openT_new] at HO
  go_wp2_with fail
  refine HO.mono ?_
  rintro e w3 ⟨q, tag3, rfl, hQ3, hT3, hB3⟩
  have hP3 : PD w3 tag3 w.heap.size 1 (St.new 40) p := hP2.keep (fun k hk _ => hB3.block k hk) hT3
  have hB03 := hB02.trans (hB3.mono hB02.size)
  have hok := (openT_ok (St.ok_new (n := 40) (by omega) (by omega))).1
  rw [openT_new] at hok
  have HN0 : Hid (Tw w l p.D q.S 0 _ p _ q tag3 w3) := ⟨hP3, hQ3, rfl, rfl, hok, few_new 40 0, by simp [St.new], by simp, fun j hj => by
    have := hB1.size
    have := hB2.size
    rw [hT3 j (by omega), hT2 j (by omega)], hB03⟩
  clear hP2 hQ3 hT3 hB3 hP3 hok hB03 HO hB02 hB2 hT2 hB1
  go_wp2_with fail
  go_loopg [9] l.length (fun gk i wr => ∃ (k : Nat) (s : St) (p1 : PL) (t : Sd) (q1 : SL) (tag : Nat → Nat), k + gk = l.length ∧ i = .int .i64 k ∧ Tw w l p.D q.S k s p1 t q1 tag wr)
  case atStart => exact ⟨0, _, _, _, _, _, by omega, rfl, HN0.out⟩
  case round =>
    obtain ⟨w0, rfl⟩ : ∃ w0, w0 = wr := ⟨wr, rfl⟩
    obtain ⟨k, s, p1, t, q1, tag, hk, rfl, hN⟩ := hrel
    by_cases hlt : k < l.length
    case neg =>
      have hge : ¬ (k : Int) < (l.length : Int) := by omega
      have hn40 := hN.few.n
      have hsin := hN.few.sin
      have HC := crash_okD w0 tag w.heap.size 1 4 s p1 hN.pd hN.below.size (by omega) _ ch (HCh.out.later hN.below) p.D hN.hD
      have hcok := hN.pd.ok.crash ch
      have hcn : (s.crash ch).n = 40 := hn40
      have hco : (s.crash ch).ops = 0 := rfl
      have HBel : Hid (Below w.heap.size w w0) := hN.below
      clear hN HN0
      go_wp2_with fail
      refine HC.mono ?_
      rintro e w4 ⟨p4, tag4, rfl, hP4, hT4, hB4⟩
      have hB04 := HBel.out.trans (hB4.mono HBel.out.size)
      have HO1 := open_ok w4 tag4 w.heap.size 4 5 (by omega) _ p4 hP4 hB04.size
      obtain ⟨hot, hor, _⟩ := openT_ok hcok
      rw [hcn] at hot hor
      clear HC hT4 hB4
      generalize s.crash ch = sc at *
      go_wp2_with fail
      refine HO1.mono ?_
      rintro e w5 ⟨q5, tag5, rfl, hQ5, hT5, hB5⟩
      have hB05 := hB04.trans (hB5.mono hB04.size)
      have hP5 : PD w5 tag5 w.heap.size 4 sc p4 := hP4.keep (fun k hk _ => hB5.block k hk) hT5
      have HO2 := open_ok w5 tag5 w.heap.size 4 6 (by omega) _ p4 hP5 hB05.size
      clear HO1 hP4 hT5 hB5 hB04
      go_wp2_with fail
      refine HO2.mono ?_
      rintro e w6 ⟨q6, tag6, rfl, hQ6, hT6, hB6⟩
      have hB06 := hB05.trans (hB6.mono hB05.size)
      have hP6 : PD w6 tag6 w.heap.size 4 sc p4 := hP5.keep (fun k hk _ => hB6.block k hk) hT6
      have hQa : PO w6 tag6 w.heap.size 5 p4.D (openT sc) q5 := hQ5.keep (fun k hk _ => hB6.block k hk) hT6 hB6.size
      have HOps := ops_ok w6 tag6 w.heap.size 4 sc p4 hP6
      rw [hco] at HOps
      have HAa := all_ok w6 tag6 w.heap.size 5 p4.D _ q5 hQa 40 hot (by omega)
      have HPD : Hid (PD w6 tag6 w.heap.size 4 sc p4) := hP6
      have HPA : Hid (PO w6 tag6 w.heap.size 5 p4.D (openT sc) q5) := hQa
      have HPB : Hid (PO w6 tag6 w.heap.size 6 p4.D (openT sc) q6) := hQ6
      have HB06 : Hid (Below w.heap.size w w6) := hB06
      clear HO2 hP5 hP6 hQ5 hQ6 hQa hT6 hB6 hB05 hB06
      go_wp2_with fail
      refine HOps.mono ?_
      rintro e w6' ⟨rfl, hx⟩
      rw [hx]
      clear hx HOps
      go_wp2_with fail
      refine HAa.mono ?_
      rintro e w7 ⟨v7, vs7, rfl, hL7, hB7⟩
      have HAb := all_ok w7 tag6 w.heap.size 6 p4.D _ q6 (HPB.out.later hB7) 40 hot (by omega)
      obtain ⟨av7, cv7, rfl⟩ := win_shape hL7.win
      clear HAa
      go_wp2_with fail
      refine HAb.mono ?_
      rintro e w8 ⟨v8, vs8, rfl, hL8, hB8⟩
      have hB68 := hB7.trans (hB8.mono hB7.size)
      have HSm := same8_ok w8 _ _ _ _ vs7 vs8 _ (hL7.later hB8) hL8
      obtain ⟨av8, cv8, rfl⟩ := win_shape hL8.win
      clear HAb hL7 hL8 hB7 hB8
      go_wp2_with fail
      refine HSm.mono ?_
      rintro e w9' ⟨rfl, nq, rfl⟩
      clear HSm
      have hB69 := hB68.trans ((below_drewN w8 nq).mono hB68.size)
      generalize w8.drewN nq = w9 at *
      clear hB68
      have HSa := segments_ok w9 tag6 w.heap.size 5 p4.D _ q5 (HPA.out.later hB69) 40 hot (by omega) (by omega)
      go_wp2_with fail
      refine HSa.mono ?_
      rintro e w10 ⟨v10, rfl, hL10, hB10⟩
      have hB610 := hB69.trans (hB10.mono hB69.size)
      have HSb := segments_ok w10 tag6 w.heap.size 6 p4.D _ q6 (HPB.out.later hB610) 40 hot (by omega) (by omega)
      obtain ⟨av10, cv10, rfl⟩ := win_shape hL10.win
      clear HSa hB69
      go_wp2_with fail
      refine HSb.mono ?_
      rintro e w11 ⟨v11, rfl, hL11, hB11⟩
      have HIn := ints8_ok w11 _ _ _ (hL10.win.later hB11) hL11.win
      have hB611 := hB610.trans (hB11.mono hB610.size)
      obtain ⟨av11, cv11, rfl⟩ := win_shape hL11.win
      clear HSb hB610 hL10 hL11 hB10 hB11
      go_wp2_with fail
      refine HIn.mono ?_
      rintro e w12' ⟨rfl, nq2, rfl⟩
      clear HIn
      have hB612 := hB611.trans ((below_drewN w11 nq2).mono hB611.size)
      generalize w11.drewN nq2 = w12 at *
      clear hB611
      have HB12 : Hid (Below w6.heap.size w6 w12) := hB612
      have hsec : recB sc.now 40 = bodies (openT sc) := by unfold recB bodies openT; rw [hcn]
      have hbn : Hid ((bodies (openT sc)).length = (openT sc).recs.length) := bodies_len (openT sc)
      obtain ⟨hk1, hk2, hk3, _⟩ : True ∧ True ∧ True ∧ True := ⟨trivial, trivial, trivial, trivial⟩
      have HKL : Hid (∀ k, k ≤ 40 → (openK sc.now k).recs.length ≤ 320) := fun k hk => by
        have := (openK_ok sc.now sc.n hcok.nl hcok.nb k (by omega)).2.2.2
        omega
      have HSL : Hid (∀ k, k < 40 → (sec sc.now k).length = 64) := fun k hk => sec_len hcok.nl (by omega)
      clear hB612 hk1 hk2 hk3
      go_wp2_with fail
      go_loopg [14, 15] 40 (fun gk v i wr => ∃ (k : Nat) (vs : List Value), k + gk = 40 ∧ i = .int .i64 k ∧ Lst wr w12.heap.size v vs (recB sc.now k) ∧ Below w12.heap.size w12 wr)
      case atStart => exact ⟨0, [], by omega, rfl, lst_nil _ _, Below.refl _ _⟩
      case round =>
        obtain ⟨w13, rfl⟩ : ∃ w13, w13 = wr := ⟨wr, rfl⟩
        obtain ⟨k2, vs13, hk2, rfl, hL, hB13⟩ := hrel
        have hB613 := HB12.out.trans (hB13.mono HB12.out.size)
        have HSz := size_ok w13 tag6 w.heap.size 4 sc p4 (HPD.out.later hB613)
        rw [hcn] at HSz
        by_cases hk40 : k2 < 40
        case neg =>
          have hge : ¬ (k2 : Int) < 40 := by omega
          have hke : k2 = 40 := by omega
          rw [hke, hsec] at hL
          have HSg := segments_ok w13 tag6 w.heap.size 5 p4.D _ q5 (HPA.out.later hB613) 40 hot (by omega) (by omega)
          obtain ⟨av13, cv13, rfl⟩ := win_shape hL.win
          have HLa : Hid (Lst w13 w12.heap.size (.slice av13 (bodies (openT sc)).length cv13) vs13 (bodies (openT sc))) := hL
          have HB613 : Hid (Below w6.heap.size w6 w13) := hB613
          clear hL hB13 hB613
          go_wp2_with fail
          refine HSz.mono ?_
          rintro e w13' ⟨rfl, hx⟩
          rw [hx]
          clear hx HSz
          go_wp2_with fail
          refine HSg.mono ?_
          rintro e w14 ⟨v14, rfl, hO14, hB14⟩
          have hsum := segL_all (openT sc).recs
          have hpart := fun k hk => segL_part (openT sc).recs k hk
          have hW14 := hO14.win
          obtain ⟨av14, cv14, rfl⟩ := win_shape hW14
          have hslen : (segL (openT sc).recs).length ≤ 40 := by
            rw [segL_len]
            exact segM_le _ 40 (fun x hx => (hot.rc x hx).1) 0 (by omega)
          have HB14 : Hid (Below w13.heap.size w13 w14) := hB14
          have hrec : (openT sc).recs.length ≤ 320 := by omega
          generalize segL (openT sc).recs = sg at *
          clear HSg hO14 hB14
          go_wp2_with fail
          go_loopg [18, 156] sg.length (fun gk n i wr => ∃ j : Nat, j + gk = sg.length ∧ i = .int .i64 j ∧ n = .int .i64 (sg.take j).sum ∧ w14 = wr)
          case atStart => exact ⟨0, by omega, rfl, by simp, rfl⟩
          case round =>
            obtain ⟨j, hj, rfl, rfl, rfl⟩ := hrel
            have hpj := hpart j (by omega)
            have hpb : (j : Int) * ((openT sc).recs.length : Int) ≤ 40 * 320 := by
              have h1 : j * (openT sc).recs.length ≤ 40 * 320 := Nat.mul_le_mul (by omega) hrec
              rw [← Int.natCast_mul]
              omega
            obtain ⟨hp1, hp2⟩ := hpj
            by_cases hjl : j < sg.length
            case neg =>
              have hjge : ¬ (j : Int) < (sg.length : Int) := by omega
              have hjs : (sg.take j).sum = (openT sc).recs.length := by rw [List.take_of_length_le (by omega)]; exact hsum
              have HAa := all_ok w14 tag6 w.heap.size 5 p4.D _ q5 ((HPA.out.later HB613.out).later HB14.out) 40 hot (by omega)
              rw [hjs]
              clear hpb hp1 hp2 hpart hjs
              go_wp2_with fail
              refine HAa.mono ?_
              rintro e w15 ⟨v15, vs15, rfl, hL15, hB15⟩
              have HSm := same8_ok w15 _ _ _ _ vs13 vs15 _ ((HLa.out.later HB14.out).later hB15) hL15
              obtain ⟨av15, cv15, rfl⟩ := win_shape hL15.win
              have hBz : Below w.heap.size w w15 := HB06.out.trans ((HB613.out.trans ((HB14.out.trans (hB15.mono HB14.out.size)).mono HB613.out.size)).mono HB06.out.size)
              clear HAa hL15 hB15
              go_wp2_with fail
              refine HSm.mono ?_
              rintro e w16 ⟨rfl, nq, rfl⟩
              rw [hbn.out]
              go_wp2
              go_ret
              exact ⟨rfl, hBz.trans ((below_drewN w15 nq).mono hBz.size)⟩
            have hjI : (j : Int) < (sg.length : Int) := by omega
            obtain ⟨SB, SO, sc', se, s1, s2, s3⟩ := hW14.read (by omega)
            injection se with sea _ sec_
            subst sea; subst sec_
            unfold maxLen at s2
            have hc := s3 j hjl
            have HST : Hid ((sg.take (j + 1)).sum = (sg.take j).sum + sg.getD j 0) := sum_take sg j hjl
            have hpj1 := hpart (j + 1) (by omega)
            rw [HST.out] at hpj1
            have hpb1 : ((j + 1 : Nat) : Int) * ((openT sc).recs.length : Int) ≤ 40 * 320 := by
              have h1 : (j + 1) * (openT sc).recs.length ≤ 40 * 320 := Nat.mul_le_mul (by omega) hrec
              rw [← Int.natCast_mul]
              omega
            obtain ⟨hp3, hp4⟩ := hpj1
            have hb1 : (sg.take j).sum ≤ 12800 := by omega
            have hb2 : (sg.take j).sum + sg.getD j 0 ≤ 12800 := by omega
            clear hpb hpb1 hp2 hp4 s3 hpart
            generalize (sg.take j).sum = A at *
            generalize sg.getD j 0 = z at *
            go_wp2
            go_roundg (sg.length - (j + 1))
            case rel => exact ⟨j + 1, by omega, by go_num, by rw [HST.out], rfl⟩
            case measure => omega
        have hkI : (k2 : Int) < 40 := by omega
        have hRd := read_okI w13 tag6 w.heap.size 4 sc p4 (HPD.out.later hB613) k2 k2 rfl (by omega) _ rfl
        have HE : Hid (recB sc.now (k2 + 1) = recB sc.now k2 ++ scanB (sec sc.now k2)) := recB_succ sc.now k2
        have hsl := HSL.out k2 hk40
        have hscl := scanB_len 64 (sec sc.now k2) (by omega)
        have hkl : (recB sc.now k2).length ≤ 320 := by rw [recB_len]; exact HKL.out k2 (by omega)
        obtain ⟨av13, cv13, rfl⟩ := win_shape hL.win
        have HLa : Hid (Lst w13 w12.heap.size (.slice av13 (recB sc.now k2).length cv13) vs13 (recB sc.now k2)) := hL
        clear hL
        go_wp2_with fail
        refine HSz.mono ?_
        rintro e w13' ⟨rfl, hx⟩
        rw [hx]
        clear hx HSz
        go_wp2_with fail
        refine hRd.mono ?_
        rintro e w14 ⟨v14, rfl, hU, _, hB14⟩
        have HSc := scan_ok w14 _ _ hU (by omega)
        clear hRd
        go_wp2_with fail
        refine HSc.mono ?_
        rintro e w15 ⟨v15, vs15, rfl, hL15, hB15⟩
        have hB1315 := hB14.trans (hB15.mono hB14.size)
        obtain ⟨v', w16, hr, hL16, hg, ⟨a16, c16, e16⟩⟩ := HLa.out.join hB1315 (hL15.mono hB14.size) hB13.size (by omega)
        subst e16
        obtain ⟨av15, cv15, e15⟩ := win_shape hL15.win
        subst e15
        have R1 : Hid (Below w12.heap.size w12 w16) := (hB13.trans (hB1315.mono hB13.size)).grown hg (by have := hB13.size; have := hB1315.size; omega) (fun g hgb => HLa.out.blk g hgb)
        rw [← HE.out] at hL16
        have HL16 : Hid (∃ vs, Lst w16 w12.heap.size (.slice a16 ((recB sc.now k2).length + (scanB (sec sc.now k2)).length) c16) vs (recB sc.now (k2 + 1))) := ⟨_, hL16⟩
        clear HSc hL15 hL16 hg hU hB14 hB15 hB1315 HLa hB13 hB613
        go_wp2_with (at_builtin; refine wpl_append_run rfl _ _ 42 rfl _ _ rfl rfl hr ?_)
        go_roundg (40 - (k2 + 1))
        case rel =>
          obtain ⟨vs16, hL16⟩ := HL16.out
          exact ⟨k2 + 1, vs16, by omega, by go_num, hL16, R1.out⟩
        case measure => omega
    have hltI : (k : Int) < (l.length : Int) := by omega
    rcases ha with rfl | hnil
    case inr => rw [hnil] at hlt; simp at hlt
    obtain ⟨c0, c1⟩ := (HD.out.later hN.below).cell k hlt
    obtain ⟨hb5, hh5⟩ := dee_any HD.out hN.below hN.z k hlt
    have hoI := (HD.out.ok k hlt).o1
    have HS1 : Hid (sumD l (k + 1) = sumD l k + l[k].b.length) := sumD_succ l k hlt
    have HS2 : Hid (sumD l (k + 1) ≤ sumD l l.length) := sumD_mono l (k + 1)
    have hbb : isBytes l[k].b := by obtain ⟨_, _, _, _, _, _, _, hb, _⟩ := hb5; exact hb
    have hpn := hN.ok.pn
    have hn40 := hN.few.n
    have hops := hN.few.ops
    have hsin := hN.few.sin
    have hou := hN.outs
    have hrc := hN.recs
    have hok := hN.ok
    have HN : Hid (Tw w l p.D q.S k s p1 t q1 tag w0) := hN
    clear hN
    obtain ⟨va, vc, hvv, _⟩ := bts_src hb5
    rw [hvv] at c1 hb5 hh5
    clear hvv
    generalize l[k].dO = dO at *
    generalize l[k].b = b at *
    obtain ⟨hoI1, hoI2⟩ := hoI
    by_cases h4 : dO ≤ 4
    · have HA := append_any8 w0 tag w.heap.size 1 2 (by omega) (by omega) (by omega) s p1 HN.out.pd t q1 p.D q.S HN.out.hD HN.out.hS HN.out.po HN.out.below.size hok _ b hb5 hh5 (by omega) (by have := HS1.out; have := HS2.out; omega) (by omega) (by omega)
      have hok2 := appT_ok (s := s) hok b hbb
      have hfew2 := HN.out.few.app t b
      have hou2 := outs_app s t b
      have hn6 : (appS s t b).n = s.n := by rw [hfew2.n, hn40]
      rw [← hn6] at hok2
      clear hb5 hh5
      go_wp2_with fail
      refine HA.mono ?_
      rintro e w6 ⟨rfl, p6, q6, tag6, hD6, hS6, hP6, hQ6, hSt6⟩
      have HR : Hid (Tw w l p.D q.S (k + 1) _ p6 _ q6 tag6 w6) := HN.out.go hP6 hQ6 hD6 hS6 hSt6 hok2.1 hfew2 (by have := HS1.out; omega) hok2.2
      clear HA hP6 hQ6 hSt6 hok2 hfew2 hou2
      go_wp2
      go_roundg (l.length - (k + 1))
      case rel => exact ⟨k + 1, _, _, _, _, _, by omega, by go_num, HR.out⟩
      case measure => omega
    have h4I : ¬ dO ≤ 4 := h4
    by_cases h5 : dO = 5
    · subst h5
      have HSy := ssync_ok w0 tag w.heap.size 1 2 (by omega) s p1 HN.out.pd t q1 (by rw [HN.out.hD]; exact HN.out.po) HN.out.below.size (by omega) (by omega) (by have := HS1.out; have := HS2.out; omega) (by omega)
      rw [HN.out.hS, HN.out.hD] at HSy
      have hok2 := synT_ok (s := s) hok
      have hfew2 := HN.out.few.sync
      have hou2 := outs_sync s
      have hn6 : s.sync.n = s.n := by rw [hfew2.n, hn40]
      rw [← hn6] at hok2
      clear hb5 hh5
      go_wp2_with fail
      refine HSy.mono ?_
      rintro e w6 ⟨rfl, p6, tag6, hD6, hP6, hQ6, hSt6⟩
      have HR : Hid (Tw w l p.D q.S (k + 1) _ p6 _ q1 tag6 w6) := HN.out.go hP6 hQ6 hD6 HN.out.hS hSt6 hok2.1 hfew2 (by have := HS1.out; omega) (by rw [hok2.2]; omega)
      clear HSy hP6 hQ6 hSt6 hok2 hfew2 hou2
      go_wp2
      go_roundg (l.length - (k + 1))
      case rel => exact ⟨k + 1, _, _, _, _, _, by omega, by go_num, HR.out⟩
      case measure => omega
    by_cases h6 : dO = 6
    · subst h6
      have HOu := outcomes_okD w0 tag w.heap.size 1 s p1 HN.out.pd HN.out.below.size _ b hb5 (by have := HS1.out; have := HS2.out; omega) p.D HN.out.hD
      have hfew2 := HN.out.few.add b
      have hou2 : (s.add b).outs.length ≤ s.outs.length + b.length := by simp [St.add]
      clear hb5 hh5
      go_wp2_with fail
      refine HOu.mono ?_
      rintro e w6 ⟨rfl, p6, tag6, hD6, hP6, hSt0⟩
      have HR : Hid (Tw w l p.D q.S (k + 1) _ p6 _ q1 tag6 w6) := HN.out.go hP6 (HN.out.po.other hSt0 (by omega)) hD6 HN.out.hS (hSt0.two1 2) hok hfew2 (by have := HS1.out; omega) (by omega)
      clear HOu hP6 hSt0 hfew2 hou2
      go_wp2
      go_roundg (l.length - (k + 1))
      case rel => exact ⟨k + 1, _, _, _, _, _, by omega, by go_num, HR.out⟩
      case measure => omega
    · have HR : Hid (Tw w l p.D q.S (k + 1) s p1 t q1 tag w0) := HN.out.go HN.out.pd HN.out.po HN.out.hD HN.out.hS (Step2.refl _ _ _ _ _) hok HN.out.few.mono (by have := HS1.out; omega) (by omega)
      clear hb5 hh5
      go_wp2
      go_roundg (l.length - (k + 1))
      case rel => exact ⟨k + 1, _, _, _, _, _, by omega, by go_num, HR.out⟩
      case measure => omega

set_option maxRecDepth 100000 in
theorem lifted (os : Os) (started : os.Started) (H : Type) (enc : TypeId × Value → H) :
    ReturnsInHanded {} Try.checked os 3 .any (Rows.strandTwiceSpec.pre6 enc Try.prog Try.f3 Rows.strandTwiceRow.domain false) (Rows.strandTwiceSpec.post enc Try.prog Try.f3 false true false false) := by
  refine returnsInHanded_of_change_sized (C := Try.checked) own started (by kernel_rfl) Try.func3
    (ChangeSpec.witness6 (enc := enc) (C := Try.checked) false ⟨#[], #[.slice none 0 0, .slice none 0 0], []⟩ 8 (by kernel_rfl) (by kernel_rfl) (by kernel_rfl) (by kernel_rfl)) ?_
  intro W base args ds gs before hval0 hW hcnd hsz0 _
  have hval : ∀ (j : Nat) t v, Try.f3.params[j]? = some t → args[j]? = some v → Value.okWide Try.prog W .any base t v := hval0
  have hsz : ∀ n ∈ DataW.weightsEach Try.prog (Try.f3.params.toList ++ Rows.strandTwiceSpec.plain.varTypes Try.prog) (ds ++ gs), n ≤ reachBytes := fun n hn => by simpa using List.all_eq_true.1 hsz0 n hn
  have hW' := hW
  obtain ⟨p, q, hA0, hV, rfl, hfz, hnd⟩ := hW
  have hA : DataW.TrodAll enc Try.prog W 0 (fun _ => true) true Try.f3.params.toList args.toList ds p := hA0
  rw [Try.params3] at hA hval hsz
  obtain ⟨v0, vs0, d0, ds0, p0, q0, hargs, rfl, rfl, h0, r0⟩ := trodAll_cons hA
  obtain ⟨v1, vs1, d1, ds1, p1, q1, rfl, rfl, rfl, h1, r1⟩ := trodAll_cons r0
  obtain ⟨rfl, rfl, rfl⟩ := trodAll_nil r1
  obtain rfl : args = #[v0, v1] := by cases args; simp_all
  obtain ⟨rfl, rfl⟩ := trodVars_none hV
  have lt0 : ∀ x ∈ p0, x.block < W.heap.size := by obtain ⟨m, hm⟩ := h0; exact DataW.trod_lt m _ _ _ hm
  have V0 := viewDe (hval 0 22 v0 rfl rfl) h0 (fun n hn => hsz n (DataW.weights_mem_each (j := 0) rfl rfl n hn))
  have lt1 : ∀ x ∈ p1, x.block < W.heap.size := by obtain ⟨m, hm⟩ := h1; exact DataW.trod_lt m _ _ _ hm
  have V1 := view26 (hval 1 23 v1 rfl rfl) h1 (fun n hn => hsz n (DataW.weights_mem_each (j := 1) rfl rfl n hn))
  clear hA0 hval0 hsz0 hsz
  refine (walk v0 v1 W V0 V1).mono fun e W' ⟨he, bel⟩ => ?_
  subst he
  exact ⟨_, rfl, _, _, _, [], _, [], hW', trodAll_mk1 (shut_bool Try.underlying4 _), (trodAll_cons_mk (Below.trod laidOut (by kernel_rfl) (of_decide_eq_true (by kernel_rfl)) h0 bel lt0) (trodAll_cons_mk (Below.trod laidOut (by kernel_rfl) (of_decide_eq_true (by kernel_rfl)) h1 bel lt1) trodAll_mk0)), rfl, bel.frame _, fun h => by cases h⟩

theorem over : Rows.strandTwiceRow.holds Try.pinned (OpenSpec.ofChange Rows.strandTwiceSpec) :=
  OpenClaim.holds_of_wide 3 Try.f3 rfl rfl rfl rfl rfl rfl rfl ⟨rfl, rfl, rfl, rfl, rfl⟩ rfl rfl rfl rfl rfl (by kernel_rfl) Try.func3 (by kernel_rfl)
    (of_decide_eq_true (by kernel_rfl)) (by unfold Func.isWrapper; first | (rw [if_pos (by decide +kernel)]; kernel_rfl) | (rw [if_neg (by decide +kernel)]; exact ⟨rfl, rfl⟩))
    (fun os started H enc _ => lifted os started H enc)

end Go.Proofs.Ytlgkndebhafliab.strandTwice
namespace Go.Proofs.Ytlgkndebhafliab
theorem strandTwice_holds : Rows.StrandTwiceSaid := strandTwice.over
#print axioms strandTwice_holds
end Go.Proofs.Ytlgkndebhafliab
