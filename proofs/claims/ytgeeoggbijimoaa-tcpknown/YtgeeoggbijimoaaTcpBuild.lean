/- The contracts of header and Build. -/
import Derived.Test.YtgeeoggbijimoaaTcpFits
namespace Go.Proofs.Ytgeeoggbijimoaa
open Go.RowKit
attribute [local go_sem ↓] Go.wp_at_zero Go.wp_at_succ

theorem tmake20 : ∃ Z : Array Value, Hid (∀ j, j < 20 → Z[j]? = some (.int .u8 0)) ∧ ∀ W : World, (Instr.makeSlice 23 (.int .i64 20) (.int .i64 20)).run Try.prog W = .ok (.slice (some ⟨W.heap.size, 0, none⟩) 20 20) (W.alloc (.cells Z 5)) := by
  refine ⟨madeCells #[.int .u8 0] 20, ?_, fun W => run_make_row' (P := Try.prog) 23 5 (.int .u8 0) 1 Try.underlying23 info5 rfl .i64 .i64 20 (by decide) (by decide) W⟩
  show ∀ j, j < 20 → (madeCells #[.int .u8 0] 20)[j]? = some (.int .u8 0)
  intro j hj
  simp [madeCells, hj, Nat.mod_one]

def zeros20 : List Int := [0, 0, 0, 0, 0, 0, 0, 0, 0, 0, 0, 0, 0, 0, 0, 0, 0, 0, 0, 0]

theorem zeros20_bts (w : World) (Z : Array Value) (h : ∀ j, j < 20 → Z[j]? = some (.int .u8 0)) (N : Nat) (hN : N = w.heap.size) : Bts (w.alloc (.cells Z 5)) (.slice (some ⟨N, 0, none⟩) 20 20) zeros20 := by
  subst hN
  exact ⟨_, 20, w.heap.size, 0, rfl, by decide, by decide, (by unfold isBytes zeros20; decide), .inl rfl, zeros_sees w Z 20 h⟩

theorem div3 (x : Int) : x / 256 / 256 / 256 % 256 = x / 16777216 % 256 := by omega

theorem div2 (x : Int) : x / 256 / 256 % 256 = x / 65536 % 256 := by omega

set_option maxHeartbeats 1000000 in
/-- What is laid, one field behind the other. -/
theorem header_list (p : Pc) :
    lay (lay (lay (lay (lay (lay (lay (zeros20 ++ p.opts) 0 2 p.src) 2 2 p.dst) 4 4 p.seq) 8 4 p.ack) 12 2 p.lead) 14 2 p.window) 18 2 p.urgent = headT p 0 := by
  have e : lay (lay (lay (lay (lay (lay (lay (zeros20 ++ p.opts) 0 2 p.src) 2 2 p.dst) 4 4 p.seq) 8 4 p.ack) 12 2 p.lead) 14 2 p.window) 18 2 p.urgent =
      (p.src / 256 % 256) :: (p.src % 256) :: (p.dst / 256 % 256) :: (p.dst % 256) :: (p.seq / 256 / 256 / 256 % 256) :: (p.seq / 256 / 256 % 256) :: (p.seq / 256 % 256) :: (p.seq % 256) :: (p.ack / 256 / 256 / 256 % 256) :: (p.ack / 256 / 256 % 256) :: (p.ack / 256 % 256) :: (p.ack % 256) ::
        (p.lead / 256 % 256) :: (p.lead % 256) :: (p.window / 256 % 256) :: (p.window % 256) :: 0 :: 0 :: (p.urgent / 256 % 256) :: (p.urgent % 256) :: p.opts := by
    simp [lay, zeros20]
  rw [e, div3, div3, div2, div2]
  rfl

theorem check_list (p : Pc) (c : Int) : lay (headT p 0) 16 2 c = headT p c := by
  simp [lay, headT, fixT]

theorem join_headT (w : World) (o : Obj) (Z : Array Value) (vo : Value) (l : List Int) (hZ : ∀ j, j < 20 → Z[j]? = some (.int .u8 0)) (ho : Bts w vo l) (hl : l.length ≤ 40) :
    Calls Try.prog 22 #[.slice (some ⟨w.heap.size + 1 + 1, 0, none⟩) 2 2, .slice none 0 0] (((w.alloc o).alloc (.cells Z 5)).alloc (.cells #[.slice (some ⟨w.heap.size + 1, 0, none⟩) 20 20, vo] 23)).drew fun e w' =>
      ∃ G cap, e = .returned (.slice (some ⟨G, 0, none⟩) (20 + l.length) cap) ∧ Sees w' G 0 (zeros20 ++ l) ∧ Below (w.alloc o).heap.size (w.alloc o) w' := by
  have b1 : Below w.heap.size w (w.alloc o) := below_alloc _ _
  have b2 : Below (w.alloc o).heap.size (w.alloc o) ((w.alloc o).alloc (.cells Z 5)) := below_alloc _ _
  have b3 : Below ((w.alloc o).alloc (.cells Z 5)).heap.size ((w.alloc o).alloc (.cells Z 5)) ((((w.alloc o).alloc (.cells Z 5)).alloc (.cells #[.slice (some ⟨w.heap.size + 1, 0, none⟩) 20 20, vo] 23)).drew) := below_drewN (below_alloc _ _) 1
  have hB1 := (zeros20_bts (w.alloc o) Z hZ (w.heap.size + 1) (by simp)).later b3
  have hB2 := ho.later (below_trans b1 (below_trans b2 b3))
  refine (join2 _ (w.heap.size + 1 + 1) _ vo zeros20 l ?_ ?_ hB1 hB2 (by show 20 + l.length ≤ _; omega)).mono ?_
  · have := World.cell?_alloc_mark ((w.alloc o).alloc (.cells Z 5)) #[.slice (some ⟨w.heap.size + 1, 0, none⟩) 20 20, vo] 23 (0, 0) 0
    rw [show ((w.alloc o).alloc (.cells Z 5)).heap.size = w.heap.size + 1 + 1 by simp] at this
    exact this
  · have := World.cell?_alloc_mark ((w.alloc o).alloc (.cells Z 5)) #[.slice (some ⟨w.heap.size + 1, 0, none⟩) 20 20, vo] 23 (0, 0) 1
    rw [show ((w.alloc o).alloc (.cells Z 5)).heap.size = w.heap.size + 1 + 1 by simp] at this
    exact this
  · rintro e w' ⟨v, rfl, ⟨g, cap, rfl, h2, h3, h4, h5, h6, h7⟩, hbel⟩
    exact ⟨g, cap, by simp [zeros20]; omega, h6, below_trans (below_trans b2 b3) hbel⟩

set_option maxHeartbeats 4000000 in
theorem header_any (p : Pc) (ao ad : Option Addr) (nd co cd : Nat) (w : World) (k : p.Ok) (f : TArg p) (hO : Bts w (.slice ao p.opts.length co) p.opts) :
    Calls Try.prog 18 #[pcV p (.slice ao p.opts.length co) (.slice ad nd cd)] w fun e w' =>
      ∃ G, e = .returned (.slice (some ⟨G, 0, none⟩) (20 + p.opts.length) (20 + p.opts.length)) ∧ Sees w' G 0 (headT p 0) ∧ Below w.heap.size w w' := by
  obtain ⟨Z, hZ, hmk⟩ := tmake20
  obtain ⟨⟨a0, a1⟩, ⟨b0, b1'⟩, ⟨c0, c1⟩, ⟨d0', d1'⟩, ⟨e0, e1⟩, o40, o4⟩ := f
  obtain ⟨s0, s1, k0, k1, -, -, -, -⟩ := k
  have HLd : Hid (p.lead = (20 + (p.opts.length : Int)) / 4 * 4096 + p.flags) := (rfl : p.lead = _)
  have hor : bits .or .i64 ((20 + (p.opts.length : Int)) / 4 * 4096) p.flags = p.lead := or_i64 12 _ p.flags (by omega) (by omega) (by omega) e0 (by omega) (by omega)
  have hld0 : 0 ≤ p.lead := by rw [HLd.out]; omega
  have hld1 : p.lead < 65536 := by rw [HLd.out]; omega
  clear HLd o4
  go_enter Try.func18, Try.ntmps18
  go_wp2_with fail
  go_region_held3 (fun w' => w'.cell? ⟨w.heap.size, 7, none⟩ = some (.slice ao p.opts.length co)) (first | go_keep | (exact box_cell (by assumption) 7 _ rfl))
    (first | (go_at_call 22; refine (join_headT w _ Z _ p.opts hZ.out hO o40).mono ?_; rintro e w1 ⟨G1, cap1, rfl, hs, hbox⟩))
  have HL0 : Hid ((zeros20 ++ p.opts).length = 20 + p.opts.length) := by show _ = _; simp [zeros20]; omega
  have d0 := box_cell hbox 0 _ rfl
  have d4 := box_cell hbox 4 _ rfl
  go_wp2_with fail
  refine (tlay_step G1 0 (20 + p.opts.length) cap1 (zeros20 ++ p.opts) 0 2 0 2 p.src _ _ hbox rfl rfl HL0.out hs (by decide) (by decide) (by omega) (by omega) (by omega) (by omega)).mono ?_
  clear hbox hs d0 d4
  rintro e w2' ⟨G2, L2, rfl, E2, HL2, hs, hbox⟩
  have hcell := box_cell hbox 1 _ rfl
  go_wp2_with fail
  refine (tlay_step G2 0 (20 + p.opts.length) (20 + p.opts.length) L2 2 2 2 2 p.dst _ _ hbox rfl rfl HL2.out hs (by decide) (by decide) (by omega) (by omega) (by omega) (by omega)).mono ?_
  clear hbox hs hcell
  rintro e w3 ⟨G3, L3, rfl, E3, HL3, hs, hbox⟩
  have hcell := box_cell hbox 2 _ rfl
  go_wp2_with fail
  refine (tlay_step G3 0 (20 + p.opts.length) (20 + p.opts.length) L3 4 4 4 4 p.seq _ _ hbox rfl rfl HL3.out hs (by decide) (by decide) (by omega) (by omega) (by omega) (by omega)).mono ?_
  clear hbox hs hcell
  rintro e w4 ⟨G4, L4, rfl, E4, HL4, hs, hbox⟩
  have hcell := box_cell hbox 3 _ rfl
  go_wp2_with fail
  refine (tlay_step G4 0 (20 + p.opts.length) (20 + p.opts.length) L4 8 4 8 4 p.ack _ _ hbox rfl rfl HL4.out hs (by decide) (by decide) (by omega) (by omega) (by omega) (by omega)).mono ?_
  clear hbox hs hcell
  rintro e w5 ⟨G5, L5, rfl, E5, HL5, hs, hbox⟩
  go_wp2_with fail
  refine (tlay_step G5 0 (20 + p.opts.length) (20 + p.opts.length) L5 12 2 12 2 p.lead _ _ hbox rfl rfl HL5.out hs (by decide) (by decide) (by omega) (by omega) (by omega) (by omega)).mono ?_
  clear hbox hs
  rintro e w6 ⟨G6, L6, rfl, E6, HL6, hs, hbox⟩
  have hcell := box_cell hbox 5 _ rfl
  go_wp2_with fail
  refine (tlay_step G6 0 (20 + p.opts.length) (20 + p.opts.length) L6 14 2 14 2 p.window _ _ hbox rfl rfl HL6.out hs (by decide) (by decide) (by omega) (by omega) (by omega) (by omega)).mono ?_
  clear hbox hs hcell
  rintro e w7 ⟨G7, L7, rfl, E7, HL7, hs, hbox⟩
  have hcell := box_cell hbox 6 _ rfl
  go_wp2_with fail
  refine (tlay_step G7 0 (20 + p.opts.length) (20 + p.opts.length) L7 18 2 18 2 p.urgent _ _ hbox rfl rfl HL7.out hs (by decide) (by decide) (by omega) (by omega) (by omega) (by omega)).mono ?_
  clear hbox hs hcell
  rintro e w8 ⟨G8, L8, rfl, E8, HL8, hs, hbox⟩
  have HE : Hid (L8 = headT p 0) := by
    show L8 = headT p 0
    rw [E8.out, E7.out, E6.out, E5.out, E4.out, E3.out, E2.out]
    exact header_list p
  rw [HE.out] at hs
  clear E2 E3 E4 E5 E6 E7 E8 HE
  go_wp2
  go_ret
  exact ⟨G8, rfl, hs, below_trans (below_alloc _ _) hbox⟩
end Go.Proofs.Ytgeeoggbijimoaa
