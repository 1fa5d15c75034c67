/- SectorKnown: chapter 7's examples. -/
import Derived.Test.YtlmmhgbpknnecaaSecMore
import Derived.Test.YtlmmhgbpknnecaaRows
set_option maxRecDepth 100000
namespace Go.Proofs.Ytlmmhgbpknnecaa.sectorKnown
open Go.ChangeShapes Go.WideShapes Go.ChangeAt Go.RowKit

def R1 : List Int := List.replicate 64 1
def R0 : List Int := List.replicate 64 0
def RC : List Int := 1 :: List.replicate 63 0
def s1 : St := (St.new 2).take.wrote 0 R1
def s2 : St := s1.add [1, 2]
def s4 : St := s2.take.take.settled

theorem e1 : sec (s1.crash [1]).now 0 = R0 := by decide +kernel
theorem e2 : sec (s1.crash [0]).now 0 = R1 := by decide +kernel
theorem e3 : sec (s1.crash [5]).now 0 = RC := by decide +kernel
theorem e4 : sec s4.now 1 = R0 := by decide +kernel
theorem e5 : sec (s4.crash [1]).now 0 = R1 := by decide +kernel
theorem b1 : isBytes R1 := isBytes_rep _ _ (by decide)
theorem b0 : isBytes R0 := isBytes_rep _ _ (by decide)

theorem bts_new2 (w : World) (N : Nat) (x y : Int) (hN : N = w.heap.size) (hx : 0 ≤ x ∧ x < 256) (hy : 0 ≤ y ∧ y < 256) : Bts (w.alloc (.cells #[.int .u8 x, .int .u8 y] 5)) (.slice (some ⟨N, 0, none⟩) 2 2) [x, y] := by
  subst hN
  refine ⟨_, 2, w.heap.size, 0, rfl, by simp, by decide, ?_, .inl rfl, ?_⟩
  · intro z hz; simp at hz; rcases hz with rfl | rfl <;> assumption
  · intro i hi
    have : i = 0 ∨ i = 1 := by simp at hi; omega
    rcases this with rfl | rfl <;> simp

set_option maxHeartbeats 16000000 in
theorem walk (w : World) : Calls Try.prog 3 #[] w fun e w' => e = .returned (.bool true) ∧ Below w.heap.size w w' := by
  go_enter Try.func3, Try.ntmps3
  go_wp2_with (go_at_call 9; refine (awake7_ok _).mono ?_; rintro e w1 ⟨rfl, hA⟩)
  refine (fresh_ok w1 (fun _ => 0) w.heap.size 1 2 2 rfl hA.size (by omega) (by omega)).mono ?_
  rintro e w2 ⟨p2, tag2, rfl, hP2, _, hb⟩
  have hB2 : Below w.heap.size w w2 := hA.trans (hb.mono hA.size)
  clear hA hb
  go_wp2_with fail
  refine (ones_ok w2 1).mono ?_
  rintro e w3 ⟨va, rfl, hO, hb⟩
  have hvaw3 : Held w3 (clip tag2 w2.heap.size) va R1 := Owns.held hO b1
  clear hO
  have hPw3 := hP2.clip hb
  have hBw3 := hB2.trans (hb.mono hB2.size)
  clear hP2 hB2 hb
  have HW := write_okD w3 (clip tag2 w2.heap.size) w.heap.size 1 (St.new 2) p2 hPw3 hBw3.size 0 0 rfl (show 0 < 2 by decide) va R1 hvaw3.1 (by decide) (hvaw3.far 1 (by omega)) (show 0 ≤ 1000000 by decide) (show 0 ≤ 1000000 by decide) (show 0 ≤ 1000000 by decide) 0 (by decide +kernel) p2.D rfl
  go_wp2_with fail
  refine HW.mono ?_
  rintro e w4 ⟨rfl, pw4, tagw4, hDw4, hQw4, hS⟩
  clear HW
  have hPw4 : PD w4 tagw4 w.heap.size 1 s1 pw4 := hQw4
  have hvaw4 := hvaw3.step hS (by omega)
  have hBw4 := hBw3.trans hS.below
  clear hvaw3 hPw3 hBw3 hS hQw4
  have hba : Below w4.heap.size w4 (w4.alloc (.cells #[.int .u8 1] 5)) := below_alloc _ _
  have HC := crash_okD (w4.alloc (.cells #[.int .u8 1] 5)) tagw4 w.heap.size 1 2 s1 pw4 (hPw4.later hba) (Nat.le_trans hBw4.size hba.size) (show 1 ≤ 1000000 by decide) (.slice (some ⟨w4.heap.size, 0, none⟩) 1 1) [1] (bts_new1 w4 w4.heap.size 1 rfl (by decide)) p2.D hDw4
  go_wp2_with fail
  refine HC.mono ?_
  rintro e w5 ⟨pc, tc, rfl, hPc, _, hbc⟩
  have HR := read_okD w5 tc w.heap.size 2 _ pc hPc 0 0 rfl (show 0 < 2 by decide) _ e1 pc.D rfl
  have hbb : Below w4.heap.size w4 w5 := hba.trans (hbc.mono hba.size)
  clear HC hPc hba hbc
  go_wp2_with fail
  refine HR.mono ?_
  rintro e w6 ⟨ga, rfl, hU, hg1, hg2, hbr⟩
  have hb : Below w4.heap.size w4 w6 := hbb.trans (hbr.mono hbb.size)
  have haw6 : Held w6 (clip tagw4 w4.heap.size) (.slice (some ⟨ga, 0, none⟩) 64 64) R0 := held_read hU (Nat.le_trans hbb.size hg1) hg2
  clear HR hU hg1 hg2 hbr hbb
  have hvaw6 := hvaw4.alloc hb
  have hPw6 := hPw4.clip hb
  have hBw6 := hBw4.trans (hb.mono hBw4.size)
  clear hvaw4 hPw4 hBw4 hb
  have hba : Below w6.heap.size w6 (w6.alloc (.cells #[.int .u8 0] 5)) := below_alloc _ _
  have HC := crash_okD (w6.alloc (.cells #[.int .u8 0] 5)) (clip tagw4 w4.heap.size) w.heap.size 1 2 s1 pw4 (hPw6.later hba) (Nat.le_trans hBw6.size hba.size) (show 1 ≤ 1000000 by decide) (.slice (some ⟨w6.heap.size, 0, none⟩) 1 1) [0] (bts_new1 w6 w6.heap.size 0 rfl (by decide)) p2.D hDw4
  go_wp2_with fail
  refine HC.mono ?_
  rintro e w7 ⟨pc, tc, rfl, hPc, _, hbc⟩
  have HR := read_okD w7 tc w.heap.size 2 _ pc hPc 0 0 rfl (show 0 < 2 by decide) _ e2 pc.D rfl
  have hbb : Below w6.heap.size w6 w7 := hba.trans (hbc.mono hba.size)
  clear HC hPc hba hbc
  go_wp2_with fail
  refine HR.mono ?_
  rintro e w8 ⟨gb, rfl, hU, hg1, hg2, hbr⟩
  have hb : Below w6.heap.size w6 w8 := hbb.trans (hbr.mono hbb.size)
  have hbw8 : Held w8 (clip (clip tagw4 w4.heap.size) w6.heap.size) (.slice (some ⟨gb, 0, none⟩) 64 64) R1 := held_read hU (Nat.le_trans hbb.size hg1) hg2
  clear HR hU hg1 hg2 hbr hbb
  have hvaw8 := hvaw6.alloc hb
  have haw8 := haw6.alloc hb
  have hPw8 := hPw6.clip hb
  have hBw8 := hBw6.trans (hb.mono hBw6.size)
  clear hvaw6 haw6 hPw6 hBw6 hb
  have hba : Below w8.heap.size w8 (w8.alloc (.cells #[.int .u8 5] 5)) := below_alloc _ _
  have HC := crash_okD (w8.alloc (.cells #[.int .u8 5] 5)) (clip (clip tagw4 w4.heap.size) w6.heap.size) w.heap.size 1 2 s1 pw4 (hPw8.later hba) (Nat.le_trans hBw8.size hba.size) (show 1 ≤ 1000000 by decide) (.slice (some ⟨w8.heap.size, 0, none⟩) 1 1) [5] (bts_new1 w8 w8.heap.size 5 rfl (by decide)) p2.D hDw4
  go_wp2_with fail
  refine HC.mono ?_
  rintro e w9 ⟨pc, tc, rfl, hPc, _, hbc⟩
  have HR := read_okD w9 tc w.heap.size 2 _ pc hPc 0 0 rfl (show 0 < 2 by decide) _ e3 pc.D rfl
  have hbb : Below w8.heap.size w8 w9 := hba.trans (hbc.mono hba.size)
  clear HC hPc hba hbc
  go_wp2_with fail
  refine HR.mono ?_
  rintro e w10 ⟨gc, rfl, hU, hg1, hg2, hbr⟩
  have hb : Below w8.heap.size w8 w10 := hbb.trans (hbr.mono hbb.size)
  have hcw10 : Held w10 (clip (clip (clip tagw4 w4.heap.size) w6.heap.size) w8.heap.size) (.slice (some ⟨gc, 0, none⟩) 64 64) RC := held_read hU (Nat.le_trans hbb.size hg1) hg2
  clear HR hU hg1 hg2 hbr hbb
  have hvaw10 := hvaw8.alloc hb
  have haw10 := haw8.alloc hb
  have hbw10 := hbw8.alloc hb
  have hPw10 := hPw8.clip hb
  have hBw10 := hBw8.trans (hb.mono hBw8.size)
  clear hvaw8 haw8 hbw8 hPw8 hBw8 hb
  have hb : Below w10.heap.size w10 (w10.alloc (.cells #[.int .u8 1, .int .u8 2] 5)) := below_alloc _ _
  have HO2 : Bts (w10.alloc (.cells #[.int .u8 1, .int .u8 2] 5)) (.slice (some ⟨w10.heap.size, 0, none⟩) 2 2) [1, 2] := bts_new2 w10 w10.heap.size 1 2 rfl (by decide) (by decide)
  obtain ⟨wx, hwx⟩ : ∃ q, q = (w10.alloc (.cells #[.int .u8 1, .int .u8 2] 5)) := ⟨_, rfl⟩
  rw [← hwx] at hb HO2
  have hvawx := hvaw10.alloc hb
  have hawx := haw10.alloc hb
  have hbwx := hbw10.alloc hb
  have hcwx := hcw10.alloc hb
  have hPwx := hPw10.clip hb
  have hBwx := hBw10.trans (hb.mono hBw10.size)
  clear hvaw10 haw10 hbw10 hcw10 hPw10 hBw10 hb
  have HW := outcomes_okD wx (clip (clip (clip (clip tagw4 w4.heap.size) w6.heap.size) w8.heap.size) w10.heap.size) w.heap.size 1 s1 pw4 hPwx hBwx.size (.slice (some ⟨w10.heap.size, 0, none⟩) 2 2) [1, 2] HO2 (show 2 ≤ 1000000 by decide) p2.D hDw4
  rw [hwx] at HW
  go_wp2_with fail
  refine HW.mono ?_
  rintro e w11 ⟨rfl, pw11, tagw11, hDw11, hQw11, hS⟩
  rw [← hwx] at hS
  clear HW HO2
  have hPw11 : PD w11 tagw11 w.heap.size 1 s2 pw11 := hQw11
  have hvaw11 := hvawx.step hS (by omega)
  have haw11 := hawx.step hS (by omega)
  have hbw11 := hbwx.step hS (by omega)
  have hcw11 := hcwx.step hS (by omega)
  have hBw11 := hBwx.trans hS.below
  clear hvawx hawx hbwx hcwx hPwx hBwx hS hQw11 hwx
  go_wp2_with fail
  refine (ones_ok w11 1).mono ?_
  rintro e w12 ⟨vd, rfl, hO, hb⟩
  have hvdw12 : Held w12 (clip tagw11 w11.heap.size) vd R1 := Owns.held hO b1
  clear hO
  have hvaw12 := hvaw11.alloc hb
  have haw12 := haw11.alloc hb
  have hbw12 := hbw11.alloc hb
  have hcw12 := hcw11.alloc hb
  have hPw12 := hPw11.clip hb
  have hBw12 := hBw11.trans (hb.mono hBw11.size)
  clear hvaw11 haw11 hbw11 hcw11 hPw11 hBw11 hb
  have HW := write_okD w12 (clip tagw11 w11.heap.size) w.heap.size 1 s2 pw11 hPw12 hBw12.size 1 1 rfl (show 1 < 2 by decide) vd R1 hvdw12.1 (by decide) (hvdw12.far 1 (by omega)) (show 1 ≤ 1000000 by decide) (show 2 ≤ 1000000 by decide) (show 1 ≤ 1000000 by decide) 8 (by decide +kernel) p2.D hDw11
  go_wp2_with fail
  refine HW.mono ?_
  rintro e w13 ⟨rfl, pw13, tagw13, hDw13, hQw13, hS⟩
  clear HW
  have hPw13 : PD w13 tagw13 w.heap.size 1 s2.take pw13 := hQw13
  have hvaw13 := hvaw12.step hS (by omega)
  have haw13 := haw12.step hS (by omega)
  have hbw13 := hbw12.step hS (by omega)
  have hcw13 := hcw12.step hS (by omega)
  have hvdw13 := hvdw12.step hS (by omega)
  have hBw13 := hBw12.trans hS.below
  clear hvaw12 haw12 hbw12 hcw12 hvdw12 hPw12 hBw12 hS hQw13
  have HW := sync_okD w13 tagw13 w.heap.size 1 s2.take pw13 hPw13 hBw13.size (show 2 ≤ 1000000 by decide) (show 1 ≤ 1000000 by decide) (show 1 ≤ 1000000 by decide) p2.D hDw13 8 (by decide +kernel)
  go_wp2_with fail
  refine HW.mono ?_
  rintro e w14 ⟨rfl, pw14, hDw14, hQw14, hS⟩
  clear HW
  have hPw14 : PD w14 tagw13 w.heap.size 1 s4 pw14 := hQw14
  have hvaw14 := hvaw13.step hS (by omega)
  have haw14 := haw13.step hS (by omega)
  have hbw14 := hbw13.step hS (by omega)
  have hcw14 := hcw13.step hS (by omega)
  have hvdw14 := hvdw13.step hS (by omega)
  have hBw14 := hBw13.trans hS.below
  clear hvaw13 haw13 hbw13 hcw13 hvdw13 hPw13 hBw13 hS hQw14
  have HR := read_okD w14 tagw13 w.heap.size 1 s4 pw14 hPw14 1 1 rfl (show 1 < 2 by decide) _ e4 p2.D hDw14
  go_wp2_with fail
  refine HR.mono ?_
  rintro e w15 ⟨gx, rfl, hU, hg1, hg2, hb⟩
  have hxw15 : Held w15 (clip tagw13 w14.heap.size) (.slice (some ⟨gx, 0, none⟩) 64 64) R0 := held_read hU hg1 hg2
  clear HR hU hg1 hg2
  have hvaw15 := hvaw14.alloc hb
  have haw15 := haw14.alloc hb
  have hbw15 := hbw14.alloc hb
  have hcw15 := hcw14.alloc hb
  have hvdw15 := hvdw14.alloc hb
  have hPw15 := hPw14.clip hb
  have hBw15 := hBw14.trans (hb.mono hBw14.size)
  clear hvaw14 haw14 hbw14 hcw14 hvdw14 hPw14 hBw14 hb
  have hba : Below w15.heap.size w15 (w15.alloc (.cells #[.int .u8 1] 5)) := below_alloc _ _
  have HC := crash_okD (w15.alloc (.cells #[.int .u8 1] 5)) (clip tagw13 w14.heap.size) w.heap.size 1 2 s4 pw14 (hPw15.later hba) (Nat.le_trans hBw15.size hba.size) (show 0 ≤ 1000000 by decide) (.slice (some ⟨w15.heap.size, 0, none⟩) 1 1) [1] (bts_new1 w15 w15.heap.size 1 rfl (by decide)) p2.D hDw14
  go_wp2_with fail
  refine HC.mono ?_
  rintro e w16 ⟨pc, tc, rfl, hPc, _, hbc⟩
  have HR := read_okD w16 tc w.heap.size 2 _ pc hPc 0 0 rfl (show 0 < 2 by decide) _ e5 pc.D rfl
  have hbb : Below w15.heap.size w15 w16 := hba.trans (hbc.mono hba.size)
  clear HC hPc hba hbc
  go_wp2_with fail
  refine HR.mono ?_
  rintro e w17 ⟨gy, rfl, hU, hg1, hg2, hbr⟩
  have hb : Below w15.heap.size w15 w17 := hbb.trans (hbr.mono hbb.size)
  have hyw17 : Held w17 (clip (clip tagw13 w14.heap.size) w15.heap.size) (.slice (some ⟨gy, 0, none⟩) 64 64) R1 := held_read hU (Nat.le_trans hbb.size hg1) hg2
  clear HR hU hg1 hg2 hbr hbb
  have hvaw17 := hvaw15.alloc hb
  have haw17 := haw15.alloc hb
  have hbw17 := hbw15.alloc hb
  have hcw17 := hcw15.alloc hb
  have hvdw17 := hvdw15.alloc hb
  have hxw17 := hxw15.alloc hb
  have hPw17 := hPw15.clip hb
  have hBw17 := hBw15.trans (hb.mono hBw15.size)
  clear hvaw15 haw15 hbw15 hcw15 hvdw15 hxw15 hPw15 hBw15 hb
  have HN := new_no w17 0 (by omega)
  go_wp2_with fail
  refine HN.mono ?_
  rintro e wn ⟨rfl, hx⟩
  have HXN : Hid (wn = w17) := hx
  clear hx HN
  rw [HXN.out]
  go_wp2_with fail
  refine (ones_ok w17 0).mono ?_
  rintro e w18 ⟨u0, rfl, hO, hb⟩
  have hu0w18 : Held w18 (clip (clip (clip tagw13 w14.heap.size) w15.heap.size) w17.heap.size) u0 R0 := Owns.held hO b0
  clear hO
  have hvaw18 := hvaw17.alloc hb
  have haw18 := haw17.alloc hb
  have hbw18 := hbw17.alloc hb
  have hcw18 := hcw17.alloc hb
  have hvdw18 := hvdw17.alloc hb
  have hxw18 := hxw17.alloc hb
  have hyw18 := hyw17.alloc hb
  have hPw18 := hPw17.clip hb
  have hBw18 := hBw17.trans (hb.mono hBw17.size)
  clear hvaw17 haw17 hbw17 hcw17 hvdw17 hxw17 hyw17 hPw17 hBw17 hb
  have HS := same_one w18 (.slice (some ⟨ga, 0, none⟩) 64 64) u0 _ _ haw18.1 hu0w18.1
  rw [sameB_self] at HS
  go_wp2_with fail
  refine HS.mono ?_
  rintro e w19 ⟨rfl, nq, hx⟩
  have hb : Below w18.heap.size w18 w19 := by rw [hx]; exact below_drewN _ _
  clear HS hx nq
  have hvaw19 := hvaw18.alloc hb
  have haw19 := haw18.alloc hb
  have hbw19 := hbw18.alloc hb
  have hcw19 := hcw18.alloc hb
  have hvdw19 := hvdw18.alloc hb
  have hxw19 := hxw18.alloc hb
  have hyw19 := hyw18.alloc hb
  have hu0w19 := hu0w18.alloc hb
  have hPw19 := hPw18.clip hb
  have hBw19 := hBw18.trans (hb.mono hBw18.size)
  clear hvaw18 haw18 hbw18 hcw18 hvdw18 hxw18 hyw18 hu0w18 hPw18 hBw18 hb
  go_wp2_with fail
  refine (ones_ok w19 1).mono ?_
  rintro e w20 ⟨u1, rfl, hO, hb⟩
  have hu1w20 : Held w20 (clip (clip (clip (clip (clip tagw13 w14.heap.size) w15.heap.size) w17.heap.size) w18.heap.size) w19.heap.size) u1 R1 := Owns.held hO b1
  clear hO
  have hvaw20 := hvaw19.alloc hb
  have haw20 := haw19.alloc hb
  have hbw20 := hbw19.alloc hb
  have hcw20 := hcw19.alloc hb
  have hvdw20 := hvdw19.alloc hb
  have hxw20 := hxw19.alloc hb
  have hyw20 := hyw19.alloc hb
  have hu0w20 := hu0w19.alloc hb
  have hPw20 := hPw19.clip hb
  have hBw20 := hBw19.trans (hb.mono hBw19.size)
  clear hvaw19 haw19 hbw19 hcw19 hvdw19 hxw19 hyw19 hu0w19 hPw19 hBw19 hb
  have cc0 := hcw20.cell 0 (by decide)
  have HS := same_one w20 (.slice (some ⟨gb, 0, none⟩) 64 64) u1 _ _ hbw20.1 hu1w20.1
  rw [sameB_self] at HS
  go_wp2_with fail
  refine HS.mono ?_
  rintro e w21 ⟨rfl, nq, hx⟩
  have hb : Below w20.heap.size w20 w21 := by rw [hx]; exact below_drewN _ _
  clear HS hx nq
  have hvaw21 := hvaw20.alloc hb
  have haw21 := haw20.alloc hb
  have hbw21 := hbw20.alloc hb
  have hcw21 := hcw20.alloc hb
  have hvdw21 := hvdw20.alloc hb
  have hxw21 := hxw20.alloc hb
  have hyw21 := hyw20.alloc hb
  have hu0w21 := hu0w20.alloc hb
  have hu1w21 := hu1w20.alloc hb
  have hPw21 := hPw20.clip hb
  have hBw21 := hBw20.trans (hb.mono hBw20.size)
  clear hvaw20 haw20 hbw20 hcw20 hvdw20 hxw20 hyw20 hu0w20 hu1w20 hPw20 hBw20 hb
  clear cc0
  have cc0 := hcw21.cell 0 (by decide)
  have cc1 := hcw21.cell 1 (by decide)
  have ev0 : RC.getD 0 0 = 1 := rfl
  have ev1 : RC.getD 1 0 = 0 := rfl
  rw [ev0] at cc0; rw [ev1] at cc1; clear ev0 ev1
  go_wp2_with fail
  refine (ones_ok w21 0).mono ?_
  rintro e w22 ⟨u2, rfl, hO, hb⟩
  have hu2w22 : Held w22 (clip (clip (clip (clip (clip (clip (clip tagw13 w14.heap.size) w15.heap.size) w17.heap.size) w18.heap.size) w19.heap.size) w20.heap.size) w21.heap.size) u2 R0 := Owns.held hO b0
  clear hO
  have hvaw22 := hvaw21.alloc hb
  have haw22 := haw21.alloc hb
  have hbw22 := hbw21.alloc hb
  have hcw22 := hcw21.alloc hb
  have hvdw22 := hvdw21.alloc hb
  have hxw22 := hxw21.alloc hb
  have hyw22 := hyw21.alloc hb
  have hu0w22 := hu0w21.alloc hb
  have hu1w22 := hu1w21.alloc hb
  have hPw22 := hPw21.clip hb
  have hBw22 := hBw21.trans (hb.mono hBw21.size)
  clear hvaw21 haw21 hbw21 hcw21 hvdw21 hxw21 hyw21 hu0w21 hu1w21 hPw21 hBw21 hb
  have HS := same_one w22 (.slice (some ⟨gx, 0, none⟩) 64 64) u2 _ _ hxw22.1 hu2w22.1
  rw [sameB_self] at HS
  go_wp2_with fail
  refine HS.mono ?_
  rintro e w23 ⟨rfl, nq, hx⟩
  have hb : Below w22.heap.size w22 w23 := by rw [hx]; exact below_drewN _ _
  clear HS hx nq
  have hvaw23 := hvaw22.alloc hb
  have haw23 := haw22.alloc hb
  have hbw23 := hbw22.alloc hb
  have hcw23 := hcw22.alloc hb
  have hvdw23 := hvdw22.alloc hb
  have hxw23 := hxw22.alloc hb
  have hyw23 := hyw22.alloc hb
  have hu0w23 := hu0w22.alloc hb
  have hu1w23 := hu1w22.alloc hb
  have hu2w23 := hu2w22.alloc hb
  have hPw23 := hPw22.clip hb
  have hBw23 := hBw22.trans (hb.mono hBw22.size)
  clear hvaw22 haw22 hbw22 hcw22 hvdw22 hxw22 hyw22 hu0w22 hu1w22 hu2w22 hPw22 hBw22 hb
  go_wp2_with fail
  refine (ones_ok w23 1).mono ?_
  rintro e w24 ⟨u3, rfl, hO, hb⟩
  have hu3w24 : Held w24 (clip (clip (clip (clip (clip (clip (clip (clip (clip tagw13 w14.heap.size) w15.heap.size) w17.heap.size) w18.heap.size) w19.heap.size) w20.heap.size) w21.heap.size) w22.heap.size) w23.heap.size) u3 R1 := Owns.held hO b1
  clear hO
  have hvaw24 := hvaw23.alloc hb
  have haw24 := haw23.alloc hb
  have hbw24 := hbw23.alloc hb
  have hcw24 := hcw23.alloc hb
  have hvdw24 := hvdw23.alloc hb
  have hxw24 := hxw23.alloc hb
  have hyw24 := hyw23.alloc hb
  have hu0w24 := hu0w23.alloc hb
  have hu1w24 := hu1w23.alloc hb
  have hu2w24 := hu2w23.alloc hb
  have hPw24 := hPw23.clip hb
  have hBw24 := hBw23.trans (hb.mono hBw23.size)
  clear hvaw23 haw23 hbw23 hcw23 hvdw23 hxw23 hyw23 hu0w23 hu1w23 hu2w23 hPw23 hBw23 hb
  have HS := same_one w24 (.slice (some ⟨gy, 0, none⟩) 64 64) u3 _ _ hyw24.1 hu3w24.1
  rw [sameB_self] at HS
  go_wp2_with fail
  refine HS.mono ?_
  rintro e w25 ⟨rfl, nq, hx⟩
  have hb : Below w24.heap.size w24 w25 := by rw [hx]; exact below_drewN _ _
  clear HS hx nq
  have hvaw25 := hvaw24.alloc hb
  have haw25 := haw24.alloc hb
  have hbw25 := hbw24.alloc hb
  have hcw25 := hcw24.alloc hb
  have hvdw25 := hvdw24.alloc hb
  have hxw25 := hxw24.alloc hb
  have hyw25 := hyw24.alloc hb
  have hu0w25 := hu0w24.alloc hb
  have hu1w25 := hu1w24.alloc hb
  have hu2w25 := hu2w24.alloc hb
  have hu3w25 := hu3w24.alloc hb
  have hPw25 := hPw24.clip hb
  have hBw25 := hBw24.trans (hb.mono hBw24.size)
  clear hvaw24 haw24 hbw24 hcw24 hvdw24 hxw24 hyw24 hu0w24 hu1w24 hu2w24 hu3w24 hPw24 hBw24 hb
  go_wp2_with fail
  go_ret
  exact ⟨rfl, hBw25⟩

set_option maxRecDepth 100000 in
theorem lifted (os : Os) (started : os.Started) (H : Type) (enc : TypeId × Value → H) :
    ReturnsInHanded {} Try.checked os 3 .any (Rows.sectorKnownSpec.pre6 enc Try.prog Try.f3 Rows.sectorKnownRow.domain false) (Rows.sectorKnownSpec.post enc Try.prog Try.f3 false true false false) := by
  refine returnsInHanded_of_change_sized (C := Try.checked) own started (by kernel_rfl) Try.func3
    (ChangeSpec.witness6 (enc := enc) (C := Try.checked) false ⟨#[], #[], []⟩ 8 (by kernel_rfl) (by kernel_rfl) (by kernel_rfl) (by kernel_rfl)) ?_
  intro W base args ds gs before hval0 hW hcnd hsz0 _
  have hval : ∀ (j : Nat) t v, Try.f3.params[j]? = some t → args[j]? = some v → Value.okWide Try.prog W .any base t v := hval0
  have hsz : ∀ n ∈ DataW.weightsEach Try.prog (Try.f3.params.toList ++ Rows.sectorKnownSpec.plain.varTypes Try.prog) (ds ++ gs), n ≤ reachBytes := fun n hn => by simpa using List.all_eq_true.1 hsz0 n hn
  have hW' := hW
  obtain ⟨p, q, hA0, hV, rfl, hfz, hnd⟩ := hW
  have hA : DataW.TrodAll enc Try.prog W 0 (fun _ => true) true Try.f3.params.toList args.toList ds p := hA0
  rw [Try.params3] at hA hval hsz
  obtain ⟨rfl, rfl, rfl⟩ := trodAll_none hA
  obtain ⟨rfl, rfl⟩ := trodVars_none hV
  clear hA0 hval0 hsz0 hsz
  refine (walk  W ).mono fun e W' ⟨he, bel⟩ => ?_
  subst he
  exact ⟨_, rfl, _, _, _, [], [], [], hW', trodAll_mk1 (shut_bool Try.underlying4 _), trodAll_mk0, rfl, bel.frame _, fun h => by cases h⟩

theorem over : Rows.sectorKnownRow.holds Try.pinned (OpenSpec.ofChange Rows.sectorKnownSpec) :=
  OpenClaim.holds_of_wide 3 Try.f3 rfl rfl rfl rfl rfl rfl rfl ⟨rfl, rfl, rfl, rfl, rfl⟩ rfl rfl rfl rfl rfl (by kernel_rfl) Try.func3 (by kernel_rfl)
    (of_decide_eq_true (by kernel_rfl)) (by unfold Func.isWrapper; first | (rw [if_pos (by decide +kernel)]; kernel_rfl) | (rw [if_neg (by decide +kernel)]; exact ⟨rfl, rfl⟩))
    (fun os started H enc _ => lifted os started H enc)

end Go.Proofs.Ytlmmhgbpknnecaa.sectorKnown
namespace Go.Proofs.Ytlmmhgbpknnecaa
theorem sectorKnown_holds : Rows.SectorKnownSaid := sectorKnown.over
#print axioms sectorKnown_holds
end Go.Proofs.Ytlmmhgbpknnecaa
