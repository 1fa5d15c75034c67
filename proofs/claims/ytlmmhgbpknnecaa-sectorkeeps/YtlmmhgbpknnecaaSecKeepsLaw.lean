/- SectorKeeps: what was certain, and not written again, is found behind any crash, whatever was written beside it and failed. -/
import Derived.Test.YtlmmhgbpknnecaaSecLoop
import Derived.Test.YtlmmhgbpknnecaaRows
set_option maxRecDepth 100000
namespace Go.Proofs.Ytlmmhgbpknnecaa.sectorKeeps
open Go.ChangeShapes Go.WideShapes Go.ChangeAt Go.RowKit

theorem below_drew {w w' : World} (h : Below w.drew.heap.size w.drew w') : Below w.heap.size w w' := ⟨h.os, h.tape, h.output, h.size, h.block⟩

theorem sec_apart (l b : List Int) (j k n : Nat) (hl : l.length = n * 64) (hj : j < n) (hb : b.length ≤ 64) (hk : k ≠ j) : sec (splice l (j * 64) b) k = sec l k := by
  unfold sec
  apply List.ext_getElem?
  intro i
  rw [List.getElem?_take, List.getElem?_take]
  split
  · rw [List.getElem?_drop, List.getElem?_drop, splice_get _ _ _ _ (by omega), if_neg (by omega)]
  · rfl

structure Safe (s : St) : Prop where
  sure : sec s.sure 5 = List.replicate 64 77
  now : sec s.now 5 = List.replicate 64 77
  far : ∀ x ∈ s.since, x.1 ≠ 5

theorem Safe.take {s : St} (h : Safe s) : Safe s.take := ⟨h.sure, h.now, h.far⟩

theorem Safe.add {s : St} (h : Safe s) (l : List Int) : Safe (s.add l) := ⟨h.sure, h.now, h.far⟩

theorem Safe.sync {s : St} (h : Safe s) : Safe s.sync := by
  unfold St.sync
  split
  · exact ⟨h.now, h.now, fun x hx => by cases hx⟩
  · exact h.take

theorem Safe.wS {s : St} (h : Safe s) (hok : s.Ok) (K : Int) (l : List Int) (hK : K ≠ 5) : Safe (wS s K l) := by
  unfold Go.Proofs.Ytlmmhgbpknnecaa.wS
  split
  · rename_i hw
    unfold wOk hasB at hw
    simp only [Bool.and_eq_true, decide_eq_true_eq] at hw
    unfold St.write
    split
    · refine ⟨h.sure, ?_, ?_⟩
      · show sec (splice s.now _ _) 5 = _
        rw [sec_apart _ _ _ _ s.n hok.nl (by omega) (by omega) (by omega)]; exact h.now
      · intro x hx
        simp only [St.wrote, St.take, List.mem_append, List.mem_singleton] at hx
        rcases hx with hx | rfl
        · exact h.far x hx
        · show K.toNat ≠ 5; omega
    · exact h.take
  · exact h

theorem torn_safe {s : St} (h : Safe s) (hok : s.Ok) (ch : List Int) : ∀ k, k ≤ s.since.length → sec (torn ch s.sure s.since k) 5 = List.replicate 64 77 := by
  intro k
  induction k with
  | zero => intro _; exact h.sure
  | succ k ih =>
    intro hk
    obtain ⟨w1, w2, w3⟩ := wr_at hok k (by omega)
    have hf : (s.since.getD k (0, [])).1 ≠ 5 := by
      rw [List.getD_eq_getElem?_getD, List.getElem?_eq_getElem (by omega)]
      exact h.far _ (List.getElem_mem _)
    show sec (splice _ _ _) 5 = _
    rw [sec_apart _ _ _ _ s.n (torn_len hok ch k (by omega)).1 w1 (by rw [List.length_take, w2]; omega) (fun e => hf e.symm)]
    exact ih (by omega)

theorem Safe.crash {s : St} (h : Safe s) (hok : s.Ok) (ch : List Int) : Safe (s.crash ch) :=
  ⟨torn_safe h hok ch _ (Nat.le_refl _), torn_safe h hok ch _ (Nat.le_refl _), fun x hx => by cases hx⟩

def s0 : St := ((St.new 6).take.wrote 5 (List.replicate 64 77)).take.settled

theorem s0_safe : Safe s0 := by
  have : sec (splice (zeros (6 * 64)) (5 * 64) (List.replicate 64 77)) 5 = List.replicate 64 77 := sec_splice _ _ 5 6 (by simp [zeros]) (by simp) (by omega)
  exact ⟨this, this, fun x hx => by cases hx⟩

/-- What the loop keeps. -/
def Inv (w : World) (l : List Dd) (dv i : Value) (wr : World) : Prop :=
  ∃ (k : Nat) (s : St) (p1 : PL) (tag1 : Nat → Nat), k ≤ l.length ∧ dv = .pointer (some ⟨p1.D, 0, none⟩) ∧ i = .int .i64 k ∧ PD wr tag1 w.heap.size 1 s p1 ∧ Few s 6 (k + 3) ∧ s.outs.length ≤ 1000 * k ∧ Safe s ∧ Below w.heap.size w wr

set_option maxHeartbeats 8000000 in
theorem walk (v0 v1 : Value) (w : World) (V0 : IsDeeds w v0) (V1 : IsBts w v1) : Calls Try.prog 8 #[v0, v1] w fun e w' => e = .returned (.bool true) ∧ Below w.heap.size w w' := by
  obtain ⟨B, O, l, hd⟩ := V0
  obtain ⟨ch, hch, _⟩ := V1
  have HD : Hid (Deeds w v0 B O l) := hd
  have HC : Hid (Bts w v1 ch) := hch
  obtain ⟨a, cap, rfl, hl, hm, ha, _⟩ := hd
  obtain ⟨ca, cc, rfl, hcl, hcm, _⟩ := bts_src hch
  clear hch
  unfold maxLen at hm hcm
  go_enter Try.func8, Try.ntmps8
  go_wp2_with (go_at_call 9; refine (awake7_ok _).mono ?_; rintro e w1 ⟨rfl, hA⟩)
  have HR := room_ok w1 _ B O l (HD.out.later hA)
  by_cases hr : roomB l = true
  case neg =>
    have hr' : roomB l = false := by simpa using hr
    rw [hr'] at HR
    refine HR.mono ?_
    rintro e w2 ⟨rfl, rfl⟩
    go_wp2_with fail
    go_ret
    exact ⟨rfl, hA⟩
  rw [hr] at HR
  unfold roomB at hr
  simp only [decide_eq_true_eq] at hr
  obtain ⟨hr1, hr2, hr3⟩ := hr
  refine HR.mono ?_
  rintro e w2 ⟨rfl, rfl⟩
  by_cases hc1 : (1000 : Int) < (ch.length : Int)
  · go_wp2_with fail
    go_ret
    exact ⟨rfl, hA⟩
  have HF := fresh_ok w2 (fun _ => 0) w.heap.size 1 6 6 rfl hA.size (by omega) (by omega)
  go_wp2_with (go_at_call 10; refine HF.mono ?_; rintro e w3 ⟨p, tag, rfl, hP, _, hB⟩)
  have hB3 : Below w.heap.size w w3 := hA.trans (hB.mono hA.size)
  clear hA hB HF HR
  have HR2 : Hid (∀ d ∈ l, d.b.length ≤ 1000) := hr2
  clear hr2 hr3
  refine (ones_ok w3 77).mono ?_
  rintro e w4 ⟨v, rfl, hO, hB4⟩
  have hb77 : isBytes (List.replicate 64 (77 : Int)) := isBytes_rep _ _ (by decide)
  have HW := write_okI w4 (clip tag w3.heap.size) w.heap.size 1 (St.new 6) p (hP.clip hB4) (Nat.le_trans hB3.size hB4.size) 5 5 rfl (by decide) v (List.replicate 64 77) (hO.bts hb77) (by simp) (hO.tag0 tag 1 (by omega)) (by decide) (by decide) (by decide) 0 rfl
  have hB04 : Below w.heap.size w w4 := hB3.trans (hB4.mono hB3.size)
  clear hP hO hB3 hB4
  go_wp2_with fail
  refine HW.mono ?_
  rintro e w5 ⟨rfl, p5, tag5, hD5, hP5, hS5⟩
  rw [write_done_eq (new_out 6)] at hP5
  have hB05 : Below w.heap.size w w5 := hB04.trans hS5.below
  have HSy := sync_okD w5 tag5 w.heap.size 1 _ p5 hP5 hB05.size (show 1 ≤ 1000000 by decide) (show 0 ≤ 1000000 by decide) (show 1 ≤ 1000000 by decide) p.D hD5 0 rfl
  clear HW hS5 hB04 hP5 hD5
  go_wp2_with fail
  refine HSy.mono ?_
  rintro e w6 ⟨rfl, p6, hD6, hP6, hS6⟩
  have hB06 : Below w.heap.size w w6 := hB05.trans hS6.below
  have hP6' : PD w6 tag5 w.heap.size 1 s0 p6 := hP6
  clear HSy hS6 hB05 hP6
  go_wp2_with fail
  go_loopw [5, 6] (fun dv i wr => Inv w l dv i wr) (fun _ i _ => l.length - (intOf i).toNat)
  case atStart => exact ⟨0, s0, p6, tag5, Nat.zero_le _, by rw [hD6], rfl, hP6', ⟨rfl, by decide, by decide⟩, by decide, s0_safe, hB06⟩
  case round =>
    clear hP6' hB06
    obtain ⟨k, s, p1, tag1, hk, rfl, rfl, hP1, hF1, ho1, hs1, hB1⟩ := hrel
    by_cases hlt : k < l.length
    · have hltI : (k : Int) < (l.length : Int) := by omega
      rcases ha with rfl | hnil
      case inr => rw [hnil] at hlt; simp at hlt
      obtain ⟨c0, c1, c2, c3, c4⟩ := HD.out.at hB1 k hlt
      have HOK := HD.out.ok k hlt
      have hbl := HR2.out _ (List.getElem_mem hlt)
      have HDD : Hid (∀ wx, Below w.heap.size w wx → DdAt wx B (O + k * 5) l[k]) := fun wx hx => HD.out.at hx k hlt
      generalize l[k] = d at *
      obtain ⟨o1, o2⟩ := HOK.o1
      obtain ⟨a1, a2⟩ := HOK.a1
      have HP1 : Hid (PD _ tag1 w.heap.size 1 s p1) := hP1
      have HF1 : Hid (Few s 6 (k + 3)) := hF1
      have HO1 : Hid (s.outs.length ≤ 1000 * k) := ho1
      have HS1 : Hid (Safe s) := hs1
      have HBB : Hid (Below w.heap.size w _) := hB1
      have q1 : Hid (s.ops ≤ 1000000) := by have := hF1.ops; show _ ≤ _; omega
      have q2 : Hid (s.since.length ≤ 1000000) := by have := hF1.sin; show _ ≤ _; omega
      have q3 : Hid (s.outs.length ≤ 1000000) := by show _ ≤ _; omega
      clear hP1 hF1 ho1 hs1 hB1
      by_cases h3 : d.dO ≤ 3
      · by_cases h5 : d.dA = 5
        · rw [h5] at c1
          have n4 : ¬ d.dO = 4 := by omega
          have n5 : ¬ d.dO = 5 := by omega
          have n6 : ¬ d.dO = 6 := by omega
          clear HDD HOK
          go_wp2
          go_roundw
          case rel => exact ⟨k + 1, s, p1, tag1, by omega, rfl, by go_num, HP1.out, HF1.out.mono, by have := HO1.out; omega, HS1.out, HBB.out⟩
          case measure => simp [intOf]; omega
        · have h5' : (d.dA != 5) = true := by simpa using h5
          have HBO : Calls Try.prog 21 #[.agg #[.int .i64 d.dO, .int .i64 d.dA, .int .i64 d.dF, .int .u8 d.dC, d.vb]] wr.drew _ := body_ok wr.drew d (HOK.later HBB.out.drew) hbl
          have HBY : Hid (isBytes (bodyL d)) := bodyL_bytes d HOK
          have K0 := HDD.out wr.drew HBB.out.drew
          clear HOK
          go_wp2
          go_region_held3 (fun w' => w'.cell? ⟨B, O + k * 5, none⟩ = some (.int .i64 d.dO) ∧ w'.cell? ⟨B, O + k * 5 + 1, none⟩ = some (.int .i64 d.dA) ∧ w'.cell? ⟨B, O + k * 5 + 2, none⟩ = some (.int .i64 d.dF) ∧ w'.cell? ⟨B, O + k * 5 + 3, none⟩ = some (.int .u8 d.dC) ∧ w'.cell? ⟨B, O + k * 5 + 4, none⟩ = some d.vb) (first | (with_reducible exact K0) | (with_reducible exact K4) | (with_reducible exact K5))
            (first
              | (go_at_call 21; refine HBO.mono ?_; rintro e w4 ⟨v4, rfl, hO4, hB4⟩
                 have hB04 : Below w.heap.size w w4 := HBB.out.drew.trans (hB4.mono HBB.out.size)
                 have K4 := HDD.out w4 hB04
                 have HW := write_any w4 (clip tag1 wr.drew.heap.size) w.heap.size 1 s p1 (HP1.out.clip (below_drew hB4)) hB04.size d.dA v4 (bodyL d) (hO4.bts HBY.out) (hO4.tag0 tag1 1 (by omega)) q1.out q3.out q2.out p1.D rfl
                 clear hB4 hO4)
              | (go_at_call 11; refine HW.mono ?_; rintro e w5 ⟨rfl, p5, tag5, hD5, hP5, hS5⟩
                 have hB05 : Below w.heap.size w w5 := hB04.trans hS5.below
                 have K5 := HDD.out w5 hB05
                 clear HW hS5))
          clear K0 K4 K5 HBO
          go_wp2
          go_roundw
          case rel => exact ⟨k + 1, _, p5, tag5, by omega, by rw [hD5], by go_num, hP5, HF1.out.wS _ _, by have := outs_wS s d.dA (bodyL d); have := HO1.out; omega, HS1.out.wS HP1.out.ok _ _ h5, hB05⟩
          case measure => simp [intOf]; omega
      · by_cases h4 : d.dO = 4
        · have HSy := sync_okD wr tag1 w.heap.size 1 s p1 HP1.out HBB.out.size q1.out q3.out q2.out p1.D rfl _ rfl
          clear HDD HOK
          rw [h4] at c0
          go_wp2_with fail
          refine HSy.mono ?_
          rintro e w5 ⟨rfl, p5, hD5, hP5, hS5⟩
          go_wp2
          go_roundw
          case rel => exact ⟨k + 1, _, p5, tag1, by omega, by rw [hD5], by go_num, hP5, HF1.out.sync, by have := outs_sync s; have := HO1.out; omega, HS1.out.sync, HBB.out.trans hS5.below⟩
          case measure => simp [intOf]; omega
        · by_cases h5 : d.dO = 5
          · have HOu := outcomes_okD wr tag1 w.heap.size 1 s p1 HP1.out HBB.out.size d.vb d.b (HOK.bt.later HBB.out) (by have := HO1.out; omega) p1.D rfl
            clear HDD HOK
            rw [h5] at c0
            go_wp2_with fail
            refine HOu.mono ?_
            rintro e w5 ⟨rfl, p5, tag5, hD5, hP5, hS5⟩
            go_wp2
            go_roundw
            case rel => exact ⟨k + 1, _, p5, tag5, by omega, by rw [hD5], by go_num, hP5, HF1.out.add _, by have := HO1.out; simp [St.add]; omega, HS1.out.add _, HBB.out.trans hS5.below⟩
            case measure => simp [intOf]; omega
          · by_cases h6 : d.dO = 6
            · have HCr := crash_okD wr tag1 w.heap.size 1 1 s p1 HP1.out HBB.out.size q2.out d.vb d.b (HOK.bt.later HBB.out) p1.D rfl
              clear HDD HOK
              rw [h6] at c0
              go_wp2_with fail
              refine HCr.mono ?_
              rintro e w5 ⟨p5, tag5, rfl, hP5, _, hB5⟩
              go_wp2
              go_roundw
              case rel => exact ⟨k + 1, _, p5, tag5, by omega, rfl, by go_num, hP5, HF1.out.crash _, by simp [St.crash], HS1.out.crash HP1.out.ok _, HBB.out.trans (hB5.mono HBB.out.size)⟩
              case measure => simp [intOf]; omega
            · clear HDD HOK
              go_wp2
              go_roundw
              case rel => exact ⟨k + 1, s, p1, tag1, by omega, rfl, by go_num, HP1.out, HF1.out.mono, by have := HO1.out; omega, HS1.out, HBB.out⟩
              case measure => simp [intOf]; omega
    · have hke : k = l.length := by omega
      subst hke
      have HCr := crash_okD wr tag1 w.heap.size 1 1 s p1 hP1 hB1.size (by have := hF1.sin; omega) _ ch (HC.out.later hB1) p1.D rfl
      have HN : Hid (s.n = 6) := hF1.n
      have HSC : Hid (sec (s.crash ch).now 5 = List.replicate 64 77) := (hs1.crash hP1.ok ch).now
      clear hP1 hF1 hs1 ho1
      go_wp2_with fail
      refine HCr.mono ?_
      rintro e w7 ⟨p7, tag7, rfl, hP7, _, hB7⟩
      have HRd := read_okI w7 tag7 w.heap.size 1 _ p7 hP7 5 5 rfl (by show 5 < s.n; rw [HN.out]; omega) _ HSC.out
      have hB07 : Below w.heap.size w w7 := hB1.trans (hB7.mono hB1.size)
      clear hP7 hB7 HCr
      go_wp2_with fail
      refine HRd.mono ?_
      rintro e w8 ⟨u, rfl, hU, _, hB8⟩
      have hB08 : Below w.heap.size w w8 := hB07.trans (hB8.mono hB07.size)
      go_wp2_with fail
      refine (ones_ok w8 77).mono ?_
      rintro e w9 ⟨v9, rfl, hO9, hB9⟩
      have HS := same_one w9 u v9 _ _ (hU.later hB9) (hO9.bts (isBytes_rep _ _ (by decide)))
      rw [sameB_self] at HS
      have hB09 : Below w.heap.size w w9 := hB08.trans (hB9.mono hB08.size)
      clear hU hO9 hB9 hB8
      go_wp2_with fail
      refine HS.mono ?_
      rintro e w10 ⟨rfl, nq, rfl⟩
      go_wp2_with fail
      go_ret
      exact ⟨rfl, hB09.trans ((below_drewN _ _).mono hB09.size)⟩

set_option maxRecDepth 100000 in
theorem lifted (os : Os) (started : os.Started) (H : Type) (enc : TypeId × Value → H) :
    ReturnsInHanded {} Try.checked os 8 .any (Rows.sectorKeepsSpec.pre6 enc Try.prog Try.f8 Rows.sectorKeepsRow.domain false) (Rows.sectorKeepsSpec.post enc Try.prog Try.f8 false true false false) := by
  refine returnsInHanded_of_change_sized (C := Try.checked) own started (by kernel_rfl) Try.func8
    (ChangeSpec.witness6 (enc := enc) (C := Try.checked) false ⟨#[], #[.slice none 0 0, .slice none 0 0], []⟩ 8 (by kernel_rfl) (by kernel_rfl) (by kernel_rfl) (by kernel_rfl)) ?_
  intro W base args ds gs before hval0 hW hcnd hsz0 _
  have hval : ∀ (j : Nat) t v, Try.f8.params[j]? = some t → args[j]? = some v → Value.okWide Try.prog W .any base t v := hval0
  have hsz : ∀ n ∈ DataW.weightsEach Try.prog (Try.f8.params.toList ++ Rows.sectorKeepsSpec.plain.varTypes Try.prog) (ds ++ gs), n ≤ reachBytes := fun n hn => by simpa using List.all_eq_true.1 hsz0 n hn
  have hW' := hW
  obtain ⟨p, q, hA0, hV, rfl, hfz, hnd⟩ := hW
  have hA : DataW.TrodAll enc Try.prog W 0 (fun _ => true) true Try.f8.params.toList args.toList ds p := hA0
  rw [Try.params8] at hA hval hsz
  obtain ⟨v0, vs0, d0, ds0, p0, q0, hargs, rfl, rfl, h0, r0⟩ := trodAll_cons hA
  obtain ⟨v1, vs1, d1, ds1, p1, q1, rfl, rfl, rfl, h1, r1⟩ := trodAll_cons r0
  obtain ⟨rfl, rfl, rfl⟩ := trodAll_nil r1
  obtain rfl : args = #[v0, v1] := by cases args; simp_all
  obtain ⟨rfl, rfl⟩ := trodVars_none hV
  have lt0 : ∀ x ∈ p0, x.block < W.heap.size := by obtain ⟨m, hm⟩ := h0; exact DataW.trod_lt m _ _ _ hm
  have V0 := view37 (hval 0 37 v0 rfl rfl) h0 (fun n hn => hsz n (DataW.weights_mem_each (j := 0) rfl rfl n hn))
  have lt1 : ∀ x ∈ p1, x.block < W.heap.size := by obtain ⟨m, hm⟩ := h1; exact DataW.trod_lt m _ _ _ hm
  have V1 := view26 (hval 1 27 v1 rfl rfl) h1 (fun n hn => hsz n (DataW.weights_mem_each (j := 1) rfl rfl n hn))
  clear hA0 hval0 hsz0 hsz
  refine (walk v0 v1 W V0 V1).mono fun e W' ⟨he, bel⟩ => ?_
  subst he
  exact ⟨_, rfl, _, _, _, [], _, [], hW', trodAll_mk1 (shut_bool Try.underlying4 _), (trodAll_cons_mk (Below.trod laidOut (by kernel_rfl) (of_decide_eq_true (by kernel_rfl)) h0 bel lt0) (trodAll_cons_mk (Below.trod laidOut (by kernel_rfl) (of_decide_eq_true (by kernel_rfl)) h1 bel lt1) trodAll_mk0)), rfl, bel.frame _, fun h => by cases h⟩

theorem over : Rows.sectorKeepsRow.holds Try.pinned (OpenSpec.ofChange Rows.sectorKeepsSpec) :=
  OpenClaim.holds_of_wide 8 Try.f8 rfl rfl rfl rfl rfl rfl rfl ⟨rfl, rfl, rfl, rfl, rfl⟩ rfl rfl rfl rfl rfl (by kernel_rfl) Try.func8 (by kernel_rfl)
    (of_decide_eq_true (by kernel_rfl)) (by unfold Func.isWrapper; first | (rw [if_pos (by decide +kernel)]; kernel_rfl) | (rw [if_neg (by decide +kernel)]; exact ⟨rfl, rfl⟩))
    (fun os started H enc _ => lifted os started H enc)

end Go.Proofs.Ytlmmhgbpknnecaa.sectorKeeps
namespace Go.Proofs.Ytlmmhgbpknnecaa
theorem sectorKeeps_holds : Rows.SectorKeepsSaid := sectorKeeps.over
#print axioms sectorKeeps_holds
end Go.Proofs.Ytlmmhgbpknnecaa
