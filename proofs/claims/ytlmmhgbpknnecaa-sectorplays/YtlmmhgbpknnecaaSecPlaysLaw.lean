/- SectorPlays: whatever is written, synced, let fail, crashed: each answer, and all that the disk tells, are what the model says. -/
import Derived.Test.YtlmmhgbpknnecaaSecLooks
import Derived.Test.YtlmmhgbpknnecaaRows
set_option maxRecDepth 100000
namespace Go.Proofs.Ytlmmhgbpknnecaa.sectorPlays
open Go.ChangeShapes Go.WideShapes Go.ChangeAt Go.RowKit
attribute [local go_sem ↓] Go.wp_at_zero Go.wp_at_succ

theorem below_drew {w w' : World} (h : Below w.drew.heap.size w.drew w') : Below w.heap.size w w' := ⟨h.os, h.tape, h.output, h.size, h.block⟩

/-- The two disks, side by side. -/
structure Both (w : World) (tag : Nat → Nat) (base : Nat) (s : St) (p : PL) (q : ML) : Prop where
  pd : PD w tag base 1 s p
  md : MD w tag base 2 s q

theorem Both.clip {w w' : World} {tag : Nat → Nat} {base : Nat} {s : St} {p : PL} {q : ML} (h : Both w tag base s p q) (hb : Below w.heap.size w w') : Both w' (clip tag w.heap.size) base s p q :=
  ⟨h.pd.clip hb, h.md.keep (fun k hk _ => hb.block k hk) (fun k hk => clip_lt tag _ k hk)⟩

theorem Both.later {w w' : World} {tag : Nat → Nat} {base : Nat} {s : St} {p : PL} {q : ML} (h : Both w tag base s p q) (hb : Below w.heap.size w w') : Both w' tag base s p q :=
  ⟨h.pd.later hb, h.md.later hb⟩

/-- What the loop keeps. -/
def Inv (w : World) (n : Nat) (l : List Dd) (gk : Nat) (dv mv i : Value) (wr : World) : Prop :=
  ∃ (k : Nat) (s : St) (p : PL) (q : ML) (tag : Nat → Nat), k + gk = l.length ∧ dv = .pointer (some ⟨p.D, 0, none⟩) ∧ mv = .pointer (some ⟨q.M, 0, none⟩) ∧ i = .int .i64 k ∧ Both wr tag w.heap.size s p q ∧ Few s n k ∧ s.outs.length ≤ 1000 * k ∧ (∀ g, g < w.heap.size → tag g = 0) ∧ Below w.heap.size w wr

set_option maxHeartbeats 4000000 in
theorem walk_big (N : Int) (B O : Nat) (l : List Dd) (v1 : Value) (w : World) (hd : Deeds w v1 B O l) (b1 : 40 < N) (b2 : N ≤ 4096) : Calls Try.prog 4 #[.int .i64 N, v1] w fun e w' => e = .returned (.bool true) ∧ Below w.heap.size w w' := by
  obtain ⟨a, cap, rfl, hl, hm, ha, _⟩ := hd
  unfold maxLen at hm
  go_enter Try.func4, Try.ntmps4
  go_wp2_with (go_at_call 9; refine (awake7_ok _).mono ?_; rintro e w1 ⟨rfl, hA⟩)
  go_ret
  exact ⟨rfl, hA⟩

theorem few_cases {N : Int} (h : ¬ (40 < N ∧ N ≤ 4096)) : N ≤ 40 ∨ 4096 < N := by omega

set_option maxHeartbeats 4000000 in
theorem walk_room (N : Int) (B O : Nat) (l : List Dd) (v1 : Value) (w : World) (hd : Deeds w v1 B O l) (hb : ¬ (40 < N ∧ N ≤ 4096)) (hr : roomB l = false) : Calls Try.prog 4 #[.int .i64 N, v1] w fun e w' => e = .returned (.bool true) ∧ Below w.heap.size w w' := by
  have HD : Hid (Deeds w v1 B O l) := hd
  obtain ⟨a, cap, rfl, hl, hm, ha, _⟩ := hd
  unfold maxLen at hm
  have HR : Hid (∀ w1, Below w.heap.size w w1 → Calls Try.prog 19 #[.slice a l.length cap] w1 fun e w' => e = .returned (.bool false) ∧ w' = w1) := fun w1 hA => by
    have := room_ok w1 _ B O l (HD.out.later hA)
    rw [hr] at this
    exact this
  rcases few_cases hb with h | h
  · clear hb
    go_enter Try.func4, Try.ntmps4
    go_wp2_with (first
      | (go_at_call 9; refine (awake7_ok _).mono ?_; rintro e w1 ⟨rfl, hA⟩)
      | (go_at_call 19; refine (HR.out w1 hA).mono ?_; rintro e w2 ⟨rfl, rfl⟩))
    go_ret
    exact ⟨rfl, hA⟩
  · clear hb
    have h' : ¬ N ≤ 4096 := by omega
    have h40 : 40 < N := by omega
    go_enter Try.func4, Try.ntmps4
    go_wp2_with (first
      | (go_at_call 9; refine (awake7_ok _).mono ?_; rintro e w1 ⟨rfl, hA⟩)
      | (go_at_call 19; refine (HR.out w1 hA).mono ?_; rintro e w2 ⟨rfl, rfl⟩))
    go_ret
    exact ⟨rfl, hA⟩

set_option maxHeartbeats 4000000 in
theorem walk_none (N : Int) (B O : Nat) (l : List Dd) (v1 : Value) (w : World) (hd : Deeds w v1 B O l) (hb : N < 1 ∨ 4096 < N) (hr : roomB l = true) : Calls Try.prog 4 #[.int .i64 N, v1] w fun e w' => e = .returned (.bool true) ∧ Below w.heap.size w w' := by
  have HD : Hid (Deeds w v1 B O l) := hd
  obtain ⟨a, cap, rfl, hl, hm, ha, _⟩ := hd
  unfold maxLen at hm
  have HR : Hid (∀ w1, Below w.heap.size w w1 → Calls Try.prog 19 #[.slice a l.length cap] w1 fun e w' => e = .returned (.bool true) ∧ w' = w1) := fun w1 hA => by
    have := room_ok w1 _ B O l (HD.out.later hA)
    rw [hr] at this
    exact this
  have HN := fun w1 => new_no w1 N hb
  have HM := fun w1 => rnew_no w1 N hb
  rcases hb with h | h
  · have h40 : ¬ 40 < N := by omega
    go_enter Try.func4, Try.ntmps4
    go_wp2_with (first
      | (go_at_call 9; refine (awake7_ok _).mono ?_; rintro e w1 ⟨rfl, hA⟩)
      | (go_at_call 19; refine (HR.out w1 hA).mono ?_; rintro e w2 ⟨rfl, rfl⟩)
      | (go_at_call 17; refine (HN _).mono ?_; rintro e w3 ⟨rfl, rfl⟩)
      | (go_at_call 20; refine (HM _).mono ?_; rintro e w4 ⟨rfl, rfl⟩))
    go_ret
    exact ⟨rfl, hA⟩
  · have h' : ¬ N ≤ 4096 := by omega
    have h40 : 40 < N := by omega
    go_enter Try.func4, Try.ntmps4
    go_wp2_with (first
      | (go_at_call 9; refine (awake7_ok _).mono ?_; rintro e w1 ⟨rfl, hA⟩)
      | (go_at_call 19; refine (HR.out w1 hA).mono ?_; rintro e w2 ⟨rfl, rfl⟩)
      | (go_at_call 17; refine (HN _).mono ?_; rintro e w3 ⟨rfl, rfl⟩)
      | (go_at_call 20; refine (HM _).mono ?_; rintro e w4 ⟨rfl, rfl⟩))
    go_ret
    exact ⟨rfl, hA⟩

set_option maxHeartbeats 16000000 in
theorem walk_main (n : Nat) (B O : Nat) (l : List Dd) (v1 : Value) (w : World) (hd : Deeds w v1 B O l) (n1 : 1 ≤ n) (n2 : n ≤ 40) (hr : roomB l = true) : Calls Try.prog 4 #[.int .i64 n, v1] w fun e w' => e = .returned (.bool true) ∧ Below w.heap.size w w' := by
  have HD : Hid (Deeds w v1 B O l) := hd
  obtain ⟨a, cap, rfl, hl, hm, ha, _⟩ := hd
  unfold maxLen at hm
  have HR : Hid (∀ w1, Below w.heap.size w w1 → Calls Try.prog 19 #[.slice a l.length cap] w1 fun e w' => e = .returned (.bool true) ∧ w' = w1) := fun w1 hA => by
    have := room_ok w1 _ B O l (HD.out.later hA)
    rw [hr] at this
    exact this
  unfold roomB at hr
  simp only [decide_eq_true_eq] at hr
  obtain ⟨hr1, hr2, _⟩ := hr
  have HR2 : Hid (∀ d ∈ l, d.b.length ≤ 1000) := hr2
  clear hr2
  have h40 : ¬ (40 : Int) < (n : Int) := by omega
  go_enter Try.func4, Try.ntmps4
  go_wp2_with (first
    | (go_at_call 9; refine (awake7_ok _).mono ?_; rintro e w1 ⟨rfl, hA⟩)
    | (go_at_call 19; refine (HR.out w1 hA).mono ?_; rintro e w2 ⟨rfl, rfl⟩)
    | (go_at_call 17; refine (new_ok _ (fun _ => 0) w.heap.size 1 n hA.size n1 (by omega)).mono ?_; rintro e w3 ⟨p, tag, rfl, hP, hT, hB⟩)
    | (go_at_call 20; refine (rnew_ok w3 tag w.heap.size 2 n (Nat.le_trans hA.size hB.size) n1 (by omega)).mono ?_; rintro e w4 ⟨q, tag4, rfl, hQ, hT4, hB4⟩))
  have hB3 : Below w.heap.size w w3 := hA.trans (hB.mono hA.size)
  have hB04 : Below w.heap.size w w4 := hB3.trans (hB4.mono hB3.size)
  have hBo : Both w4 tag4 w.heap.size (St.new n) p q := ⟨hP.keep (fun k hk _ => hB4.block k hk) hT4, hQ⟩
  have hT0 : ∀ g, g < w.heap.size → tag4 g = 0 := fun g hg => by rw [hT4 g (by have := hB3.size; omega), hT g (by have := hA.size; omega)]
  clear hP hQ hT hT4 hB hB4 hB3 hA HR
  go_loopg [5, 7, 9] l.length (fun gk dv mv i wr => Inv w n l gk dv mv i wr)
  case atStart => exact ⟨0, _, p, q, tag4, Nat.zero_add _, rfl, rfl, rfl, hBo, ⟨rfl, Nat.le_refl _, Nat.le_refl _⟩, Nat.le_refl _, hT0, hB04⟩
  case round =>
    clear hBo hB04 hT0
    obtain ⟨k, s, p1, q1, tag1, hk, rfl, rfl, rfl, hBo, hF1, ho1, hT1, hB1⟩ := hrel
    have HT1 : Hid (∀ g, g < w.heap.size → tag1 g = 0) := hT1
    clear hT1
    by_cases hlt : k < l.length
    · have hltI : (k : Int) < (l.length : Int) := by omega
      rcases ha with rfl | hnil
      case inr => rw [hnil] at hlt; simp at hlt
      obtain ⟨c0, c1, c2, c3, c4⟩ := HD.out.at hB1 k hlt
      have HOK := HD.out.ok k hlt
      have hbl := HR2.out _ (List.getElem_mem hlt)
      have HDD : Hid (∀ wx, Below w.heap.size w wx → DdAt wx B (O + k * 5) l[k]) := fun wx hx => HD.out.at hx k hlt
      generalize l[k] = d at *
      obtain ⟨o1, o2⟩ := HOK.o1
      obtain ⟨a1, a2⟩ := HOK.a1
      have HBo : Hid (Both wr tag1 w.heap.size s p1 q1) := hBo
      have HF1 : Hid (Few s n k) := hF1
      have HO1 : Hid (s.outs.length ≤ 1000 * k) := ho1
      have HBB : Hid (Below w.heap.size w wr) := hB1
      have x1 : Hid (s.ops ≤ 1000000) := by have := hF1.ops; show _ ≤ _; omega
      have x2 : Hid (s.since.length ≤ 1000000) := by have := hF1.sin; show _ ≤ _; omega
      have x3 : Hid (s.outs.length ≤ 1000000) := by show _ ≤ _; omega
      clear hBo hF1 ho1 hB1
      by_cases h3 : d.dO ≤ 3
      · have HBO : Calls Try.prog 21 #[.agg #[.int .i64 d.dO, .int .i64 d.dA, .int .i64 d.dF, .int .u8 d.dC, d.vb]] wr.drew _ := body_ok wr.drew d (HOK.later HBB.out.drew) hbl
        have HBY : Hid (isBytes (bodyL d)) := bodyL_bytes d HOK
        have K0 := HDD.out wr.drew HBB.out.drew
        have HOKH : Hid (d.Ok w) := HOK
        clear HOK
        go_wp2
        go_region_held3 (fun w' => w'.cell? ⟨B, O + k * 5, none⟩ = some (.int .i64 d.dO) ∧ w'.cell? ⟨B, O + k * 5 + 1, none⟩ = some (.int .i64 d.dA) ∧ w'.cell? ⟨B, O + k * 5 + 2, none⟩ = some (.int .i64 d.dF) ∧ w'.cell? ⟨B, O + k * 5 + 3, none⟩ = some (.int .u8 d.dC) ∧ w'.cell? ⟨B, O + k * 5 + 4, none⟩ = some d.vb) (first | (with_reducible exact K0) | (with_reducible exact K4) | (with_reducible exact K5))
          (first
            | (go_at_call 21; refine HBO.mono ?_; rintro e w4 ⟨v4, rfl, hO4, hB4⟩
               have hB04 : Below w.heap.size w w4 := HBB.out.drew.trans (hB4.mono HBB.out.size)
               have K4 := HDD.out w4 hB04
               have HBo4 : Hid (Both w4 (clip tag1 wr.drew.heap.size) w.heap.size s p1 q1) := HBo.out.clip (below_drew hB4)
               have HW := write_any w4 (clip tag1 wr.drew.heap.size) w.heap.size 1 s p1 HBo4.out.pd hB04.size d.dA v4 (bodyL d) (hO4.bts HBY.out) (hO4.tag0 tag1 1 (by omega)) x1.out x3.out x2.out p1.D rfl
               clear hB4 hO4)
            | (go_at_call 11; refine HW.mono ?_; rintro e w5 ⟨rfl, p5, tag5, hD5, hP5, hS5⟩
               have hB05 : Below w.heap.size w w5 := hB04.trans hS5.below
               have K5 := HDD.out w5 hB05
               have hM5 : MD w5 tag5 w.heap.size 2 s q1 := HBo4.out.md.other hS5 (by omega)
               have HT5 : Hid (∀ g, g < w.heap.size → tag5 g = 0) := fun g hg => by rw [hS5.tags g (Nat.lt_of_lt_of_le hg hB04.size)]; exact (clip_lt tag1 _ g (Nat.lt_of_lt_of_le hg HBB.out.size)).trans (HT1.out g hg)
               clear HW hS5))
        have HBO2 : Calls Try.prog 21 #[.agg #[.int .i64 d.dO, .int .i64 d.dA, .int .i64 d.dF, .int .u8 d.dC, d.vb]] w5.drew _ := body_ok w5.drew d (HOKH.out.later hB05.drew) hbl
        have K5' := HDD.out w5.drew hB05.drew
        clear K0 K4 HBO HBo4
        go_wp2
        go_region_held3 (fun w' => w'.cell? ⟨B, O + k * 5, none⟩ = some (.int .i64 d.dO) ∧ w'.cell? ⟨B, O + k * 5 + 1, none⟩ = some (.int .i64 d.dA) ∧ w'.cell? ⟨B, O + k * 5 + 2, none⟩ = some (.int .i64 d.dF) ∧ w'.cell? ⟨B, O + k * 5 + 3, none⟩ = some (.int .u8 d.dC) ∧ w'.cell? ⟨B, O + k * 5 + 4, none⟩ = some d.vb) (first | (with_reducible exact K5') | (with_reducible exact K6) | (with_reducible exact K7))
          (first
            | (go_at_call 21; refine HBO2.mono ?_; rintro e w6 ⟨v6, rfl, hO6, hB6⟩
               have hB06 : Below w.heap.size w w6 := hB05.drew.trans (hB6.mono hB05.size)
               have K6 := HDD.out w6 hB06
               have hP6 : PD w6 (clip tag5 w5.drew.heap.size) w.heap.size 1 (wS s d.dA (bodyL d)) p5 := hP5.clip (below_drew hB6)
               have hM6 : MD w6 (clip tag5 w5.drew.heap.size) w.heap.size 2 s q1 := hM5.keep (fun g hg _ => (below_drew hB6).block g hg) (fun g hg => clip_lt tag5 _ g hg)
               have HW := rwrite_any w6 (clip tag5 w5.drew.heap.size) w.heap.size 2 s q1 hM6 hB06.size d.dA v6 (bodyL d) (hO6.bts HBY.out) (hO6.tag0 tag5 2 (by omega)) x1.out x3.out x2.out q1.M rfl
               clear hB6 hO6 hM6)
            | (go_at_call 22; refine HW.mono ?_; rintro e w7 ⟨rfl, q7, tag7, hD7, hQ7, hS7⟩
               have hB07 : Below w.heap.size w w7 := hB06.trans hS7.below
               have K7 := HDD.out w7 hB07
               have hBo7 : Both w7 tag7 w.heap.size (wS s d.dA (bodyL d)) p5 q7 := ⟨hP6.other hS7 (by omega), hQ7⟩
               have HT7 : Hid (∀ g, g < w.heap.size → tag7 g = 0) := fun g hg => by rw [hS7.tags g (Nat.lt_of_lt_of_le hg hB06.size)]; exact (clip_lt tag5 _ g (Nat.lt_of_lt_of_le hg hB05.size)).trans (HT5.out g hg)
               clear HW hS7))
        have HL := looks_ok w7 tag7 tag7 w.heap.size 1 2 _ p5 q7 hBo7.pd hBo7.md
        rw [hD5, hD7] at HL
        clear K5 K5' K6 K7 HBO2 hP5 hP6 hM5 hQ7
        go_wp2_with fail
        refine HL.mono ?_
        rintro e w8 ⟨rfl, hB8⟩
        go_wp2_with fail
        go_roundg (l.length - (k + 1))
        case measure => omega
        case rel => exact ⟨k + 1, _, p5, q7, tag7, by omega, by rw [hD5], by rw [hD7], by go_num, hBo7.later hB8, HF1.out.wS _ _, by have := outs_wS s d.dA (bodyL d); have := HO1.out; omega, HT7.out, hB07.trans (hB8.mono hB07.size)⟩
      · by_cases h4 : d.dO = 4
        · have HSy := sync_okD wr tag1 w.heap.size 1 s p1 HBo.out.pd HBB.out.size x1.out x3.out x2.out p1.D rfl _ rfl
          clear HDD HOK
          rw [h4] at c0
          go_wp2_with fail
          refine HSy.mono ?_
          rintro e w5 ⟨rfl, p5, hD5, hP5, hS5⟩
          have hM5 : MD w5 tag1 w.heap.size 2 s q1 := HBo.out.md.other hS5 (by omega)
          have HRs := rsync_ok w5 tag1 w.heap.size 2 s q1 hM5 x1.out x3.out
          have hB5 : Below w.heap.size w w5 := HBB.out.trans hS5.below
          clear HSy hS5 hM5
          go_wp2_with fail
          refine HRs.mono ?_
          rintro e w6 ⟨rfl, q6, hM6, hQ6, hS6⟩
          have hB6 : Below w.heap.size w w6 := hB5.trans hS6.below
          have hBo6 : Both w6 tag1 w.heap.size s.sync p5 q6 := ⟨hP5.other hS6 (by omega), hQ6⟩
          have HL := looks_ok w6 tag1 tag1 w.heap.size 1 2 _ p5 q6 hBo6.pd hBo6.md
          rw [hD5, hM6] at HL
          clear HRs hS6 hP5 hQ6 hB5
          go_wp2_with fail
          refine HL.mono ?_
          rintro e w7 ⟨rfl, hB7⟩
          go_wp2_with fail
          go_roundg (l.length - (k + 1))
          case measure => omega
          case rel => exact ⟨k + 1, _, p5, q6, tag1, by omega, by rw [hD5], by rw [hM6], by go_num, hBo6.later hB7, HF1.out.sync, by have := outs_sync s; have := HO1.out; omega, HT1.out, hB6.trans (hB7.mono hB6.size)⟩
        · by_cases h5 : d.dO = 5
          · have hbt := HOK.bt
            have HOu := outcomes_okD wr tag1 w.heap.size 1 s p1 HBo.out.pd HBB.out.size d.vb d.b (hbt.later HBB.out) (by have := HO1.out; omega) p1.D rfl
            have HBT : Hid (Bts w d.vb d.b) := hbt
            have HDD' := HDD
            clear HDD HOK hbt
            rw [h5] at c0
            go_wp2_with fail
            refine HOu.mono ?_
            rintro e w5 ⟨rfl, p5, tag5, hD5, hP5, hS5⟩
            have hM5 : MD w5 tag5 w.heap.size 2 s q1 := HBo.out.md.other hS5 (by omega)
            have hB5 : Below w.heap.size w w5 := HBB.out.trans hS5.below
            have HT5 : Hid (∀ g, g < w.heap.size → tag5 g = 0) := fun g hg => by rw [hS5.tags g (Nat.lt_of_lt_of_le hg HBB.out.size)]; exact HT1.out g hg
            have HRa := radd_ok w5 tag5 w.heap.size 2 s q1 hM5 hB5.size d.vb d.b (HBT.out.later hB5) (fun hne g hg => by rw [HT5.out g (bts_lt HBT.out hne g hg)]; omega) (by have := HO1.out; omega)
            obtain ⟨_, _, _, _, e4⟩ := HDD'.out w5 hB5
            clear HOu hS5 hM5 c0 c1 c2 c3 c4
            go_wp2_with fail
            refine HRa.mono ?_
            rintro e w6 ⟨rfl, q6, tag6, hM6, hQ6, hS6⟩
            have hB6 : Below w.heap.size w w6 := hB5.trans hS6.below
            have hBo6 : Both w6 tag6 w.heap.size (s.add d.b) p5 q6 := ⟨hP5.other hS6 (by omega), hQ6⟩
            have HT6 : Hid (∀ g, g < w.heap.size → tag6 g = 0) := fun g hg => by rw [hS6.tags g (Nat.lt_of_lt_of_le hg hB5.size)]; exact HT5.out g hg
            have HL := looks_ok w6 tag6 tag6 w.heap.size 1 2 _ p5 q6 hBo6.pd hBo6.md
            rw [hD5, hM6] at HL
            clear HRa hS6 hP5 hQ6 hB5 e4
            go_wp2_with fail
            refine HL.mono ?_
            rintro e w7 ⟨rfl, hB7⟩
            go_wp2_with fail
            go_roundg (l.length - (k + 1))
            case measure => omega
            case rel => exact ⟨k + 1, _, p5, q6, tag6, by omega, by rw [hD5], by rw [hM6], by go_num, hBo6.later hB7, HF1.out.add _, by have := HO1.out; simp [St.add]; omega, HT6.out, hB6.trans (hB7.mono hB6.size)⟩
          · have hbt := HOK.bt
            have HCr := crash_okD wr tag1 w.heap.size 1 1 s p1 HBo.out.pd HBB.out.size x2.out d.vb d.b (hbt.later HBB.out) p1.D rfl
            have HBT : Hid (Bts w d.vb d.b) := hbt
            have HDD' := HDD
            clear HDD HOK hbt
            go_wp2_with fail
            refine HCr.mono ?_
            rintro e w5 ⟨p5, tag5, rfl, hP5, hT5, hB5'⟩
            have hM5 : MD w5 tag5 w.heap.size 2 s q1 := HBo.out.md.keep (fun g hg _ => hB5'.block g hg) hT5
            have hB5 : Below w.heap.size w w5 := HBB.out.trans (hB5'.mono HBB.out.size)
            have HT5 : Hid (∀ g, g < w.heap.size → tag5 g = 0) := fun g hg => by rw [hT5 g (Nat.lt_of_lt_of_le hg HBB.out.size)]; exact HT1.out g hg
            have HRc := rcrash_ok w5 tag5 w.heap.size 2 2 s q1 hM5 hB5.size x2.out d.vb d.b (HBT.out.later hB5)
            obtain ⟨_, _, _, _, e4⟩ := HDD'.out w5 hB5
            clear HCr hB5' hT5 hM5 c0 c1 c2 c3 c4
            go_wp2_with fail
            refine HRc.mono ?_
            rintro e w6 ⟨q6, tag6, rfl, hQ6, hT6, hB6'⟩
            have hB6 : Below w.heap.size w w6 := hB5.trans (hB6'.mono hB5.size)
            have hBo6 : Both w6 tag6 w.heap.size (s.crash d.b) p5 q6 := ⟨hP5.keep (fun g hg _ => hB6'.block g hg) hT6, hQ6⟩
            have HT6 : Hid (∀ g, g < w.heap.size → tag6 g = 0) := fun g hg => by rw [hT6 g (Nat.lt_of_lt_of_le hg hB5.size)]; exact HT5.out g hg
            have HL := looks_ok w6 tag6 tag6 w.heap.size 1 2 _ p5 q6 hBo6.pd hBo6.md
            clear HRc hB6' hP5 hQ6 hB5 e4 hT6
            go_wp2_with fail
            refine HL.mono ?_
            rintro e w7 ⟨rfl, hB7⟩
            go_wp2_with fail
            go_roundg (l.length - (k + 1))
            case measure => omega
            case rel => exact ⟨k + 1, _, p5, q6, tag6, by omega, rfl, rfl, by go_num, hBo6.later hB7, HF1.out.crash _, by simp [St.crash], HT6.out, hB6.trans (hB7.mono hB6.size)⟩
    · have hke : k = l.length := by omega
      subst hke
      clear hBo hF1
      go_wp2
      go_ret
      exact ⟨rfl, hB1⟩

theorem walk (v0 v1 : Value) (w : World) (V0 : IsI64 w v0) (V1 : IsDeeds w v1) : Calls Try.prog 4 #[v0, v1] w fun e w' => e = .returned (.bool true) ∧ Below w.heap.size w w' := by
  obtain ⟨N, rfl, N0, N1⟩ := V0
  obtain ⟨B, O, l, hd⟩ := V1
  by_cases hbig : 40 < N ∧ N ≤ 4096
  · exact walk_big N B O l v1 w hd hbig.1 hbig.2
  · by_cases hr : roomB l = true
    · by_cases hn : N < 1 ∨ 4096 < N
      · exact walk_none N B O l v1 w hd hn hr
      · obtain ⟨n, rfl⟩ : ∃ n : Nat, N = n := ⟨N.toNat, by omega⟩
        exact walk_main n B O l v1 w hd (by omega) (by omega) hr
    · exact walk_room N B O l v1 w hd hbig (by simpa using hr)

set_option maxRecDepth 100000 in
theorem lifted (os : Os) (started : os.Started) (H : Type) (enc : TypeId × Value → H) :
    ReturnsInHanded {} Try.checked os 4 .any (Rows.sectorPlaysSpec.pre6 enc Try.prog Try.f4 Rows.sectorPlaysRow.domain false) (Rows.sectorPlaysSpec.post enc Try.prog Try.f4 false true false false) := by
  refine returnsInHanded_of_change_sized (C := Try.checked) own started (by kernel_rfl) Try.func4
    (ChangeSpec.witness6 (enc := enc) (C := Try.checked) false ⟨#[], #[.int .i64 0, .slice none 0 0], []⟩ 8 (by kernel_rfl) (by kernel_rfl) (by kernel_rfl) (by kernel_rfl)) ?_
  intro W base args ds gs before hval0 hW hcnd hsz0 _
  have hval : ∀ (j : Nat) t v, Try.f4.params[j]? = some t → args[j]? = some v → Value.okWide Try.prog W .any base t v := hval0
  have hsz : ∀ n ∈ DataW.weightsEach Try.prog (Try.f4.params.toList ++ Rows.sectorPlaysSpec.plain.varTypes Try.prog) (ds ++ gs), n ≤ reachBytes := fun n hn => by simpa using List.all_eq_true.1 hsz0 n hn
  have hW' := hW
  obtain ⟨p, q, hA0, hV, rfl, hfz, hnd⟩ := hW
  have hA : DataW.TrodAll enc Try.prog W 0 (fun _ => true) true Try.f4.params.toList args.toList ds p := hA0
  rw [Try.params4] at hA hval hsz
  obtain ⟨v0, vs0, d0, ds0, p0, q0, hargs, rfl, rfl, h0, r0⟩ := trodAll_cons hA
  obtain ⟨v1, vs1, d1, ds1, p1, q1, rfl, rfl, rfl, h1, r1⟩ := trodAll_cons r0
  obtain ⟨rfl, rfl, rfl⟩ := trodAll_nil r1
  obtain rfl : args = #[v0, v1] := by cases args; simp_all
  obtain ⟨rfl, rfl⟩ := trodVars_none hV
  have lt0 : ∀ x ∈ p0, x.block < W.heap.size := by obtain ⟨m, hm⟩ := h0; exact DataW.trod_lt m _ _ _ hm
  have V0 := view3 (hval 0 3 v0 rfl rfl) h0 (fun n hn => hsz n (DataW.weights_mem_each (j := 0) rfl rfl n hn))
  have lt1 : ∀ x ∈ p1, x.block < W.heap.size := by obtain ⟨m, hm⟩ := h1; exact DataW.trod_lt m _ _ _ hm
  have V1 := view37 (hval 1 37 v1 rfl rfl) h1 (fun n hn => hsz n (DataW.weights_mem_each (j := 1) rfl rfl n hn))
  clear hA0 hval0 hsz0 hsz
  refine (walk v0 v1 W V0 V1).mono fun e W' ⟨he, bel⟩ => ?_
  subst he
  exact ⟨_, rfl, _, _, _, [], _, [], hW', trodAll_mk1 (shut_bool Try.underlying4 _), (trodAll_cons_mk (Below.trod laidOut (by kernel_rfl) (of_decide_eq_true (by kernel_rfl)) h0 bel lt0) (trodAll_cons_mk (Below.trod laidOut (by kernel_rfl) (of_decide_eq_true (by kernel_rfl)) h1 bel lt1) trodAll_mk0)), rfl, bel.frame _, fun h => by cases h⟩

theorem over : Rows.sectorPlaysRow.holds Try.pinned (OpenSpec.ofChange Rows.sectorPlaysSpec) :=
  OpenClaim.holds_of_wide 4 Try.f4 rfl rfl rfl rfl rfl rfl rfl ⟨rfl, rfl, rfl, rfl, rfl⟩ rfl rfl rfl rfl rfl (by kernel_rfl) Try.func4 (by kernel_rfl)
    (of_decide_eq_true (by kernel_rfl)) (by unfold Func.isWrapper; first | (rw [if_pos (by decide +kernel)]; kernel_rfl) | (rw [if_neg (by decide +kernel)]; exact ⟨rfl, rfl⟩))
    (fun os started H enc _ => lifted os started H enc)

end Go.Proofs.Ytlmmhgbpknnecaa.sectorPlays
namespace Go.Proofs.Ytlmmhgbpknnecaa
theorem sectorPlays_holds : Rows.SectorPlaysSaid := sectorPlays.over
#print axioms sectorPlays_holds
end Go.Proofs.Ytlmmhgbpknnecaa
