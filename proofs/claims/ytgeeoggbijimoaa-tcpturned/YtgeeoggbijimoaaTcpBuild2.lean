/- The contract of Build. -/
import Derived.Test.YtgeeoggbijimoaaTcpBuild
namespace Go.Proofs.Ytgeeoggbijimoaa
open Go.RowKit
attribute [local go_sem ↓] Go.wp_at_zero Go.wp_at_succ

theorem boxesP {w w' : World} {p : Pc} {vo vd : Value} {t : TypeId} (hb : Below (w.alloc (.cells (pcC p vo vd) t)).heap.size (w.alloc (.cells (pcC p vo vd) t)) w') :
    w'.cell? ⟨w.heap.size, 0, none⟩ = some (.int .i64 p.src) ∧ w'.cell? ⟨w.heap.size, 1, none⟩ = some (.int .i64 p.dst) ∧ w'.cell? ⟨w.heap.size, 2, none⟩ = some (.int .u32 p.seq) ∧ w'.cell? ⟨w.heap.size, 3, none⟩ = some (.int .u32 p.ack) ∧ w'.cell? ⟨w.heap.size, 4, none⟩ = some (.int .i64 p.flags) ∧
      w'.cell? ⟨w.heap.size, 5, none⟩ = some (.int .i64 p.window) ∧ w'.cell? ⟨w.heap.size, 6, none⟩ = some (.int .i64 p.urgent) ∧ w'.cell? ⟨w.heap.size, 7, none⟩ = some vo ∧ w'.cell? ⟨w.heap.size, 8, none⟩ = some vd :=
  ⟨box_cell hb 0 _ rfl, box_cell hb 1 _ rfl, box_cell hb 2 _ rfl, box_cell hb 3 _ rfl, box_cell hb 4 _ rfl, box_cell hb 5 _ rfl, box_cell hb 6 _ rfl, box_cell hb 7 _ rfl, box_cell hb 8 _ rfl⟩

set_option maxHeartbeats 1000000 in
theorem tbuild_arg (s d : Int) (p : Pc) (ao ad : Option Addr) (co cd : Nat) (w : World) (k : p.Ok) (ho : p.opts.length ≤ 140737488351232) (hd : p.data.length ≤ 140737488351232) (h : ¬ TArg p) :
    Calls Try.prog 9 #[.int .u32 s, .int .u32 d, pcV p (.slice ao p.opts.length co) (.slice ad p.data.length cd)] w fun e w' => e = .returned (.tuple #[.slice none 0 0, .int .i64 1]) ∧ Below w.heap.size w w' := by
  have g0 : argB p = false := decide_eq_false h
  go_enter Try.func9, Try.ntmps9
  go_wp2_with fail
  refine (fits_any p ao ad _ co cd _ k ho).mono ?_
  rintro e w1 ⟨rfl, hb1⟩
  rw [g0]
  go_wp2
  go_ret2
  exact ⟨rfl, below_trans (below_alloc _ _) hb1⟩

set_option maxHeartbeats 1000000 in
theorem tbuild_long (s d : Int) (p : Pc) (ao ad : Option Addr) (co cd : Nat) (w : World) (k : p.Ok) (ho : p.opts.length ≤ 140737488351232) (hd : p.data.length ≤ 140737488351232) (h : TArg p) (hl : 2028 < 20 + p.opts.length + p.data.length) :
    Calls Try.prog 9 #[.int .u32 s, .int .u32 d, pcV p (.slice ao p.opts.length co) (.slice ad p.data.length cd)] w fun e w' => e = .returned (.tuple #[.slice none 0 0, .int .i64 3]) ∧ Below w.heap.size w w' := by
  have g0 : argB p = true := decide_eq_true h
  have g2 : (2028 : Int) < 20 + (p.opts.length : Int) + (p.data.length : Int) := by omega
  go_enter Try.func9, Try.ntmps9
  go_wp2_with fail
  refine (fits_any p ao ad _ co cd _ k ho).mono ?_
  rintro e w1 ⟨rfl, hb1⟩
  rw [g0]
  go_wp2
  go_ret2
  exact ⟨rfl, below_trans (below_alloc _ _) hb1⟩

theorem tbuild_no (s d : Int) (p : Pc) (ao ad : Option Addr) (co cd : Nat) (w : World) (k : p.Ok) (ho : p.opts.length ≤ 140737488351232) (hd : p.data.length ≤ 140737488351232) (h : ¬ buildT p = 0) :
    Calls Try.prog 9 #[.int .u32 s, .int .u32 d, pcV p (.slice ao p.opts.length co) (.slice ad p.data.length cd)] w fun e w' => e = .returned (.tuple #[.slice none 0 0, .int .i64 (buildT p)]) ∧ Below w.heap.size w w' := by
  obtain ⟨E, hE⟩ : ∃ E, buildT p = E := ⟨_, rfl⟩
  rw [hE] at h ⊢
  unfold buildT at hE
  by_cases h0 : TArg p
  case neg => rw [if_pos h0] at hE; subst hE; exact tbuild_arg s d p ao ad co cd w k ho hd h0
  rw [if_neg (by simpa using h0)] at hE
  by_cases h2 : 2028 < 20 + p.opts.length + p.data.length
  · rw [if_pos h2] at hE; subst hE; exact tbuild_long s d p ao ad co cd w k ho hd h0 h2
  rw [if_neg h2] at hE
  exact absurd hE.symm h

theorem thead_bts {w : World} {G : Nat} {p : Pc} {c : Int} {n : Nat} (h : Sees w G 0 (headT p c)) (hn : n = 20 + p.opts.length) (hl : p.opts.length ≤ 40) (hb : isBytes p.opts) : Bts w (.slice (some ⟨G, 0, none⟩) n n) (headT p c) := by
  subst hn
  exact ⟨_, 20 + p.opts.length, G, 0, by rw [headT_length], by rw [headT_length]; exact Nat.le_refl _, by unfold maxLen; omega, headT_bytes p c hb, .inl rfl, h⟩

set_option maxHeartbeats 8000000 in
theorem tbuild_ok (s d : Int) (p : Pc) (ao ad : Option Addr) (co cd : Nat) (w : World) (s0 : 0 ≤ s) (s1 : s < 4294967296) (t0 : 0 ≤ d) (t1 : d < 4294967296) (k : p.Ok) (f : TFits p) (hO : Bts w (.slice ao p.opts.length co) p.opts) (hD : Bts w (.slice ad p.data.length cd) p.data) :
    Calls Try.prog 9 #[.int .u32 s, .int .u32 d, pcV p (.slice ao p.opts.length co) (.slice ad p.data.length cd)] w fun e w' =>
      ∃ v, e = .returned (.tuple #[v, .int .i64 0]) ∧ Fresh w' w.heap.size v (builtT s d p) ∧ Below w.heap.size w w' := by
  have g0 : argB p = true := decide_eq_true f.arg
  have HF : Hid (TArg p) := f.arg
  have HK : Hid (p.Ok) := k
  have o40 := f.arg.o40
  have hall := f.all
  have g2 : ¬ (2028 : Int) < 20 + (p.opts.length : Int) + (p.data.length : Int) := by omega
  have HC : Hid (checkT s d p = turn16 (fold16 (ws (pseudoB s d 6 (20 + (p.opts.length : Int) + (p.data.length : Int)) ++ (headT p 0 ++ p.data))))) := (rfl : checkT s d p = _)
  have HCB : Hid (0 ≤ checkT s d p ∧ checkT s d p ≤ 65535) := checkT_bd s d p
  clear k f
  go_enter Try.func9, Try.ntmps9
  go_wp2_with fail
  refine (fits_any p ao ad _ co cd _ HK.out (by omega)).mono ?_
  rintro e w1 ⟨rfl, hb1⟩
  rw [g0]
  obtain ⟨d0, d1, d2, d3, d4, d5, d6, d7, d8⟩ := boxesP hb1
  have hy1 := below_trans (below_alloc w (.cells (pcC p (.slice ao p.opts.length co) (.slice ad p.data.length cd)) 29)) hb1
  go_wp2_with fail
  refine (header_any p ao ad _ co cd _ HK.out HF.out (hO.later hy1)).mono ?_
  rintro e w3 ⟨G3, rfl, hs, hb3⟩
  have hb := below_trans hb1 hb3
  have hy3 := below_trans hy1 hb3
  have hD3 := hD.later hy3
  have hH3 := thead_bts hs rfl o40 HK.out.opts
  clear d0 d1 d2 d3 d4 d5 d6 d7 d8 hb1 hb3 hy1
  have d8 : w3.cell? ⟨w.heap.size, 8, none⟩ = some (.slice ad p.data.length cd) := box_cell hb 8 _ rfl
  go_wp2_with fail
  go_region_held3 (fun w' => w'.cell? ⟨w.heap.size, 8, none⟩ = some (.slice ad p.data.length cd)) (first | go_keep | (exact box_cell (by assumption) 8 _ rfl))
    (first
      | (go_at_call 20; refine (pseudo_any s d 6 (20 + (p.opts.length : Int) + (p.data.length : Int)) _ s0 s1 t0 t1).mono ?_; rintro e w4 ⟨G4, rfl, hP, hb4'⟩; have hb4 : Below w3.heap.size w3 w4 := below_trans (below_drewN (Below.refl _ _) 1) hb4'; have hbx4 := below_trans hb hb4)
      | (go_at_call 19; refine (check3 w4 _ _ _ _ _ _ _ 23 rfl hP (hH3.later hb4) (hD3.later hb4) (by rw [pseudo_length, headT_length]; omega)).mono ?_; rintro e w5 ⟨rfl, rfl⟩; have hbx5 := below_trans hbx4 (below_alloc w4 (.cells #[.slice (some ⟨G4, 0, none⟩) 12 12, .slice (some ⟨G3, 0, none⟩) (20 + p.opts.length) (20 + p.opts.length), .slice ad p.data.length cd] 23))))
  have bx := below_alloc w4 (.cells #[.slice (some ⟨G4, 0, none⟩) 12 12, .slice (some ⟨G3, 0, none⟩) (20 + p.opts.length) (20 + p.opts.length), .slice ad p.data.length cd] 23)
  have hs5 := hs.later (below_trans hb4 bx)
  generalize (w4.alloc (.cells #[.slice (some ⟨G4, 0, none⟩) 12 12, .slice (some ⟨G3, 0, none⟩) (20 + p.opts.length) (20 + p.opts.length), .slice ad p.data.length cd] 23)) = w5 at *
  rw [← HC.out]
  obtain ⟨C, hC0⟩ : ∃ C, checkT s d p = C := ⟨_, rfl⟩
  have HCC : Hid (checkT s d p = C) := hC0
  have hcb := HCB.out
  rw [hC0] at hcb ⊢
  clear hC0 HCB HC
  obtain ⟨f0, f1⟩ := hcb
  clear hP hb4' hb4 hbx4 hD3 hH3 hb hs bx d8 hy3
  go_wp2_with fail
  refine (tlay_step G3 0 (20 + p.opts.length) (20 + p.opts.length) (headT p 0) 16 2 16 2 C _ _ hbx5 rfl rfl (headT_length p 0) hs5 (by decide) (by decide) (by omega) (by omega) (by omega) (by omega)).mono ?_
  rintro e w6 ⟨G6, L6, rfl, E6, HL6, hs6, hb6⟩
  have HE6 : Hid (L6 = headT p C) := by
    show L6 = headT p C
    rw [E6.out]
    exact check_list p C
  rw [HE6.out] at hs6
  have hb06 := below_trans (below_alloc w (.cells (pcC p (.slice ao p.opts.length co) (.slice ad p.data.length cd)) 29)) hb6
  have hH6 := thead_bts hs6 rfl o40 HK.out.opts
  have hD6 := hD.later hb06
  have d8 : w6.cell? ⟨w.heap.size, 8, none⟩ = some (.slice ad p.data.length cd) := box_cell hb6 8 _ rfl
  clear hs5 hbx5 E6 HE6
  go_wp2_with fail
  refine (join_pair w6 _ _ _ (headT p C) p.data (20 + p.opts.length) 23 rfl (headT_length p C) hH6 hD6 (by omega)).mono ?_
  rintro e w7 ⟨g, cap, rfl, hF, hg, hb7⟩
  have hbb := below_trans hb06 hb7
  have hF' : Fresh w7 w.heap.size (.slice (some ⟨g, 0, none⟩) (20 + p.opts.length + p.data.length) cap) (builtT s d p) := by
    unfold builtT
    rw [HCC.out]
    exact hF.low (by have := hb06.size; omega)
  clear hF hs6 hb6 hD6 hH6 d8
  go_wp2
  go_ret2
  exact ⟨_, rfl, hF', hbb⟩
end Go.Proofs.Ytgeeoggbijimoaa
