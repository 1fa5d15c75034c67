/- SectorSynced: behind a Sync that is done nothing of the choice counts: a crash finds what was there. -/
import Derived.Test.YtlmmhgbpknnecaaSecLoop
import Derived.Test.YtlmmhgbpknnecaaRows
set_option maxRecDepth 100000
namespace Go.Proofs.Ytlmmhgbpknnecaa.sectorSynced
open Go.ChangeShapes Go.WideShapes Go.ChangeAt Go.RowKit

theorem settled_crash (s : St) (ch : List Int) (h : s.since = []) (he : s.now = s.sure) : (s.crash ch).now = s.now := by
  show torn ch s.sure s.since s.since.length = _
  rw [h, he]; rfl

theorem below_drew {w w' : World} (h : Below w.drew.heap.size w.drew w') : Below w.heap.size w w' := ⟨h.os, h.tape, h.output, h.size, h.block⟩

set_option maxHeartbeats 8000000 in
theorem walk (v0 v1 : Value) (w : World) (V0 : IsDeeds w v0) (V1 : IsBts w v1) : Calls Try.prog 5 #[v0, v1] w fun e w' => e = .returned (.bool true) ∧ Below w.heap.size w w' := by
  obtain ⟨B, O, l, hd⟩ := V0
  obtain ⟨ch, hch, _⟩ := V1
  have HD : Hid (Deeds w v0 B O l) := hd
  have HC : Hid (Bts w v1 ch) := hch
  obtain ⟨a, cap, rfl, hl, hm, ha, _⟩ := hd
  obtain ⟨ca, cc, rfl, hcl, hcm, _⟩ := bts_src hch
  clear hch
  unfold maxLen at hm hcm
  go_enter Try.func5, Try.ntmps5
  go_wp2_with (go_at_call 9; refine (awake7_ok _).mono ?_; rintro e w1 ⟨rfl, hA⟩)
  have HR := room_ok w1 _ B O l (HD.out.later hA)
  by_cases hr : roomB l = true
  case neg =>
    have hr' : roomB l = false := by simpa using hr
    rw [hr'] at HR
    refine HR.mono ?_
    rintro e w2 ⟨rfl, rfl⟩
    go_wp2_with fail
    go_ret
    exact ⟨rfl, hA⟩
  rw [hr] at HR
  unfold roomB at hr
  simp only [decide_eq_true_eq] at hr
  obtain ⟨hr1, hr2, hr3⟩ := hr
  refine HR.mono ?_
  rintro e w2 ⟨rfl, rfl⟩
  by_cases hc1 : (1000 : Int) < (ch.length : Int)
  · go_wp2_with fail
    go_ret
    exact ⟨rfl, hA⟩
  have HF := fresh_ok w2 (fun _ => 0) w.heap.size 1 6 6 rfl hA.size (by omega) (by omega)
  go_wp2_with (go_at_call 10; refine HF.mono ?_; rintro e w3 ⟨p, tag, rfl, hP, _, hB⟩)
  have hB3 : Below w.heap.size w w3 := hA.trans (hB.mono hA.size)
  clear hA hB HF HR
  have HR2 : Hid (∀ d ∈ l, d.b.length ≤ 1000) := hr2
  clear hr2 hr3
  go_loopw [6] (fun i wr => ∃ (k : Nat) (s : St) (p1 : PL) (tag1 : Nat → Nat), k ≤ l.length ∧ i = .int .i64 k ∧ p1.D = p.D ∧ PD wr tag1 w.heap.size 1 s p1 ∧ Few s 6 k ∧ s.outs = [] ∧ Below w.heap.size w wr) (fun i _ => l.length - (intOf i).toNat)
  case atStart => exact ⟨0, _, p, tag, Nat.zero_le _, rfl, rfl, hP, ⟨rfl, Nat.le_refl _, Nat.le_refl _⟩, rfl, hB3⟩
  case round =>
    clear hP hB3
    obtain ⟨k, s, p1, tag1, hk, rfl, hD1, hP1, hF1, ho1, hB1⟩ := hrel
    by_cases hlt : k < l.length
    · have hltI : (k : Int) < (l.length : Int) := by omega
      rcases ha with rfl | hnil
      case inr => rw [hnil] at hlt; simp at hlt
      obtain ⟨c0, c1, c2, c3, c4⟩ := HD.out.at hB1 k hlt
      have HOK := HD.out.ok k hlt
      have hbl := HR2.out _ (List.getElem_mem hlt)
      have HDD : Hid (∀ wx, Below w.heap.size w wx → DdAt wx B (O + k * 5) l[k]) := fun wx hx => HD.out.at hx k hlt
      generalize l[k] = d at *
      obtain ⟨o1, o2⟩ := HOK.o1
      by_cases h3 : d.dO ≤ 3
      · have HBO : Calls Try.prog 21 #[.agg #[.int .i64 d.dO, .int .i64 d.dA, .int .i64 d.dF, .int .u8 d.dC, d.vb]] wr.drew _ := body_ok wr.drew d (HOK.later (hB1.drew)) hbl
        have HP1 : Hid (PD wr tag1 w.heap.size 1 s p1) := hP1
        have HF1 : Hid (Few s 6 k) := hF1
        have HO1 : Hid (s.outs = []) := ho1
        have HBB : Hid (Below w.heap.size w wr) := hB1
        have hbb := bodyL_bytes d HOK
        have HBY : Hid (isBytes (bodyL d)) := hbb
        have q1 : Hid (s.ops ≤ 1000000) := by have := hF1.ops; show _ ≤ _; omega
        have q2 : Hid (s.since.length ≤ 1000000) := by have := hF1.sin; show _ ≤ _; omega
        have K0 := HDD.out wr.drew hB1.drew
        clear hP1 hF1 ho1 hB1 hbb HOK
        go_wp2
        go_region_held3 (fun w' => w'.cell? ⟨B, O + k * 5, none⟩ = some (.int .i64 d.dO) ∧ w'.cell? ⟨B, O + k * 5 + 1, none⟩ = some (.int .i64 d.dA) ∧ w'.cell? ⟨B, O + k * 5 + 2, none⟩ = some (.int .i64 d.dF) ∧ w'.cell? ⟨B, O + k * 5 + 3, none⟩ = some (.int .u8 d.dC) ∧ w'.cell? ⟨B, O + k * 5 + 4, none⟩ = some d.vb) (first | (with_reducible exact K0) | (with_reducible exact K4) | (with_reducible exact K5))
          (first
            | (go_at_call 21; refine HBO.mono ?_; rintro e w4 ⟨v4, rfl, hO4, hB4⟩
               have hB04 : Below w.heap.size w w4 := HBB.out.drew.trans (hB4.mono HBB.out.size)
               have K4 := HDD.out w4 hB04
               have HW := write_any w4 (clip tag1 wr.drew.heap.size) w.heap.size 1 s p1 (HP1.out.clip (below_drew hB4)) hB04.size d.dA v4 (bodyL d) (hO4.bts HBY.out) (hO4.tag0 tag1 1 (by omega)) q1.out (by rw [HO1.out]; decide) q2.out p.D hD1
               clear hB4 hO4)
            | (go_at_call 11; refine HW.mono ?_; rintro e w5 ⟨rfl, p5, tag5, hD5, hP5, hS5⟩
               have hB05 : Below w.heap.size w w5 := hB04.trans hS5.below
               have K5 := HDD.out w5 hB05
               clear HW hS5))
        clear K0 K4 K5 HBO
        go_wp2
        go_roundw
        case rel => exact ⟨k + 1, _, p5, tag5, by omega, by go_num, hD5, hP5, HF1.out.wS _ _, outs_nil_wS _ _ _ HO1.out, hB05⟩
        case measure => simp [intOf]; omega
      · have h3' : ¬ d.dO ≤ 3 := h3
        clear HDD
        go_wp2
        go_roundw
        case rel => exact ⟨k + 1, s, p1, tag1, by omega, by go_num, hD1, hP1, hF1.mono, ho1, hB1⟩
        case measure => simp [intOf]; omega
    · have hke : k = l.length := by omega
      subst hke
      have HSy := sync_okD wr tag1 w.heap.size 1 s p1 hP1 hB1.size (by have := hF1.ops; omega) (by rw [ho1]; decide) (by have := hF1.sin; omega) p.D hD1 0 (by unfold St.out; rw [ho1]; rfl)
      have HF1 : Hid (Few s 6 l.length) := hF1
      have HO1 : Hid (s.outs = []) := ho1
      have HBB : Hid (Below w.heap.size w wr) := hB1
      have HE : Hid (s.sync = s.take.settled) := by show _ = _; unfold St.sync St.out; rw [ho1]; rfl
      clear hP1 hF1 ho1 hB1
      go_wp2_with fail
      refine HSy.mono ?_
      rintro e w5 ⟨rfl, p5, hD5, hP5, hS5⟩
      have HB5 : Hid (Below w.heap.size w w5) := HBB.out.trans hS5.below
      rw [HE.out] at hP5
      have HDi := dirty_okI w5 tag1 w.heap.size 1 _ p5 hP5 p.D hD5 0 rfl
      have HCr := crash_okD w5 tag1 w.heap.size 1 2 _ p5 hP5 HB5.out.size (by show 0 ≤ 1000000; omega) _ ch (HC.out.later HB5.out) p.D hD5
      have HP5 : Hid (PD w5 tag1 w.heap.size 1 s.take.settled p5) := hP5
      clear hP5 hS5 HSy
      go_wp2_with fail
      refine HDi.mono ?_
      rintro e w6 ⟨rfl, rfl⟩
      go_wp2_with fail
      refine HCr.mono ?_
      rintro e w7 ⟨p7, tag7, rfl, hP7, _, hB7⟩
      have hP57 : PD w7 tag1 w.heap.size 1 s.take.settled p5 := HP5.out.later hB7
      have hB07 : Below w.heap.size w w7 := HB5.out.trans (hB7.mono HB5.out.size)
      have HNN : Hid ((s.take.settled.crash ch).now = s.take.settled.now) := settled_crash _ ch rfl rfl
      have HN6 : Hid (s.n = 6) := HF1.out.n
      clear HP5 HDi HCr hB7 HF1 HO1
      go_wp2_with fail
      go_loopw [8] (fun i wr => ∃ (k : Nat), k ≤ 6 ∧ i = .int .i64 k ∧ PD wr tag1 w.heap.size 1 s.take.settled p5 ∧ PD wr tag7 w.heap.size 2 (s.take.settled.crash ch) p7 ∧ Below w.heap.size w wr) (fun i _ => 6 - (intOf i).toNat)
      case atStart => exact ⟨0, Nat.zero_le _, rfl, hP57, hP7, hB07⟩
      case round =>
        clear hP57 hP7 hB07
        obtain ⟨k, hk, rfl, hPa, hPb, hBw⟩ := hrel
        by_cases hlt : k < 6
        · have hltI : (k : Int) < 6 := by omega
          have HRa := read_okI _ tag1 w.heap.size 1 _ p5 hPa k k rfl (by show k < s.n; rw [HN6.out]; exact hlt) _ rfl
          rw [hD5] at HRa
          have HPb : Hid (PD _ tag7 w.heap.size 2 (s.take.settled.crash ch) p7) := hPb
          have HPa : Hid (PD _ tag1 w.heap.size 1 s.take.settled p5) := hPa
          clear hPa hPb
          go_wp2_with fail
          refine HRa.mono ?_
          rintro e w8 ⟨ua, rfl, hUa, _, hB8⟩
          have HRb := read_okI w8 tag7 w.heap.size 2 _ p7 (HPb.out.later hB8) k k rfl (by show k < s.n; rw [HN6.out]; exact hlt) _ (congrArg (fun q => sec q k) HNN.out)
          clear HRa
          go_wp2_with fail
          refine HRb.mono ?_
          rintro e w9 ⟨ub, rfl, hUb, _, hB9⟩
          have HS := same_one w9 ua ub _ _ (hUa.later hB9) hUb
          rw [sameB_self] at HS
          have hB09 : Below w.heap.size w w9 := (hBw.trans (hB8.mono hBw.size)).trans (hB9.mono (Nat.le_trans hBw.size hB8.size))
          have hQa := (HPa.out.later hB8).later hB9
          have hQb := (HPb.out.later hB8).later hB9
          clear HRb hUa hUb hB8 hB9 hBw HPa HPb
          go_wp2_with fail
          refine HS.mono ?_
          rintro e w10 ⟨rfl, nq, rfl⟩
          go_wp2_with fail
          go_roundw
          case rel => exact ⟨k + 1, by omega, by go_num, hQa.later (below_drewN _ _), hQb.later (below_drewN _ _), hB09.trans ((below_drewN _ _).mono hB09.size)⟩
          case measure => simp [intOf]; omega
        · have hke : k = 6 := by omega
          subst hke
          have HOp := ops_ok _ tag7 w.heap.size 2 _ p7 hPb
          have HDi := dirty_ok _ tag7 w.heap.size 2 _ p7 hPb
          clear hPa hPb
          go_wp2_with fail
          refine HOp.mono ?_
          rintro e w8 ⟨rfl, rfl⟩
          go_wp2_with fail
          refine HDi.mono ?_
          rintro e w9 ⟨rfl, rfl⟩
          go_wp2_with fail
          go_ret
          exact ⟨rfl, hBw⟩

set_option maxRecDepth 100000 in
theorem lifted (os : Os) (started : os.Started) (H : Type) (enc : TypeId × Value → H) :
    ReturnsInHanded {} Try.checked os 5 .any (Rows.sectorSyncedSpec.pre6 enc Try.prog Try.f5 Rows.sectorSyncedRow.domain false) (Rows.sectorSyncedSpec.post enc Try.prog Try.f5 false true false false) := by
  refine returnsInHanded_of_change_sized (C := Try.checked) own started (by kernel_rfl) Try.func5
    (ChangeSpec.witness6 (enc := enc) (C := Try.checked) false ⟨#[], #[.slice none 0 0, .slice none 0 0], []⟩ 8 (by kernel_rfl) (by kernel_rfl) (by kernel_rfl) (by kernel_rfl)) ?_
  intro W base args ds gs before hval0 hW hcnd hsz0 _
  have hval : ∀ (j : Nat) t v, Try.f5.params[j]? = some t → args[j]? = some v → Value.okWide Try.prog W .any base t v := hval0
  have hsz : ∀ n ∈ DataW.weightsEach Try.prog (Try.f5.params.toList ++ Rows.sectorSyncedSpec.plain.varTypes Try.prog) (ds ++ gs), n ≤ reachBytes := fun n hn => by simpa using List.all_eq_true.1 hsz0 n hn
  have hW' := hW
  obtain ⟨p, q, hA0, hV, rfl, hfz, hnd⟩ := hW
  have hA : DataW.TrodAll enc Try.prog W 0 (fun _ => true) true Try.f5.params.toList args.toList ds p := hA0
  rw [Try.params5] at hA hval hsz
  obtain ⟨v0, vs0, d0, ds0, p0, q0, hargs, rfl, rfl, h0, r0⟩ := trodAll_cons hA
  obtain ⟨v1, vs1, d1, ds1, p1, q1, rfl, rfl, rfl, h1, r1⟩ := trodAll_cons r0
  obtain ⟨rfl, rfl, rfl⟩ := trodAll_nil r1
  obtain rfl : args = #[v0, v1] := by cases args; simp_all
  obtain ⟨rfl, rfl⟩ := trodVars_none hV
  have lt0 : ∀ x ∈ p0, x.block < W.heap.size := by obtain ⟨m, hm⟩ := h0; exact DataW.trod_lt m _ _ _ hm
  have V0 := view37 (hval 0 37 v0 rfl rfl) h0 (fun n hn => hsz n (DataW.weights_mem_each (j := 0) rfl rfl n hn))
  have lt1 : ∀ x ∈ p1, x.block < W.heap.size := by obtain ⟨m, hm⟩ := h1; exact DataW.trod_lt m _ _ _ hm
  have V1 := view26 (hval 1 27 v1 rfl rfl) h1 (fun n hn => hsz n (DataW.weights_mem_each (j := 1) rfl rfl n hn))
  clear hA0 hval0 hsz0 hsz
  refine (walk v0 v1 W V0 V1).mono fun e W' ⟨he, bel⟩ => ?_
  subst he
  exact ⟨_, rfl, _, _, _, [], _, [], hW', trodAll_mk1 (shut_bool Try.underlying4 _), (trodAll_cons_mk (Below.trod laidOut (by kernel_rfl) (of_decide_eq_true (by kernel_rfl)) h0 bel lt0) (trodAll_cons_mk (Below.trod laidOut (by kernel_rfl) (of_decide_eq_true (by kernel_rfl)) h1 bel lt1) trodAll_mk0)), rfl, bel.frame _, fun h => by cases h⟩

theorem over : Rows.sectorSyncedRow.holds Try.pinned (OpenSpec.ofChange Rows.sectorSyncedSpec) :=
  OpenClaim.holds_of_wide 5 Try.f5 rfl rfl rfl rfl rfl rfl rfl ⟨rfl, rfl, rfl, rfl, rfl⟩ rfl rfl rfl rfl rfl (by kernel_rfl) Try.func5 (by kernel_rfl)
    (of_decide_eq_true (by kernel_rfl)) (by unfold Func.isWrapper; first | (rw [if_pos (by decide +kernel)]; kernel_rfl) | (rw [if_neg (by decide +kernel)]; exact ⟨rfl, rfl⟩))
    (fun os started H enc _ => lifted os started H enc)

end Go.Proofs.Ytlmmhgbpknnecaa.sectorSynced
namespace Go.Proofs.Ytlmmhgbpknnecaa
theorem sectorSynced_holds : Rows.SectorSyncedSaid := sectorSynced.over
#print axioms sectorSynced_holds
end Go.Proofs.Ytlmmhgbpknnecaa
