/- The contract of header. -/
import Derived.Test.YtkclbmhhlpdcnaaDoorJoin
import Derived.Test.YtkclbmhhlpdcnaaDoorIpSmall
import Derived.Test.YtkclbmhhlpdcnaaDoorIpBits
import Derived.Deep.OwnRows
import Derived.Deep.RegionHeld3
import Derived.Deep.DrawnRows
set_option maxRecDepth 100000
namespace Go.Proofs.YtkclbmhhlpdcnaaDoor
open Go.RowKit
attribute [local go_sem ↓] Go.wp_at_zero Go.wp_at_succ

theorem make20 : ∃ Z : Array Value, Hid (∀ j, j < 20 → Z[j]? = some (.int .u8 0)) ∧ ∀ W : World, (Instr.makeSlice 23 (.int .i64 20) (.int .i64 20)).run Tryd.prog W = .ok (.slice (some ⟨W.heap.size, 0, none⟩) 20 20) (W.alloc (.cells Z 5)) := by
  refine ⟨madeCells #[.int .u8 0] 20, ?_, fun W => run_make_row' (P := Tryd.prog) 23 5 (.int .u8 0) 1 Tryd.underlying23 info5 rfl .i64 .i64 20 (by decide) (by decide) W⟩
  show ∀ j, j < 20 → (madeCells #[.int .u8 0] 20)[j]? = some (.int .u8 0)
  intro j hj
  simp [madeCells, hj, Nat.mod_one]

theorem box_cell {w w' : World} {C : Array Value} {t : TypeId} (hb : Below (w.alloc (.cells C t)).heap.size (w.alloc (.cells C t)) w') (i : Nat) (v : Value) (hv : C[i]? = some v) : w'.cell? ⟨w.heap.size, i, none⟩ = some v := by
  refine cell_later hb ?_
  have := World.cell?_alloc_mark w C t (0, 0) i
  rw [this]; exact hv

def zeros20 : List Int := [0, 0, 0, 0, 0, 0, 0, 0, 0, 0, 0, 0, 0, 0, 0, 0, 0, 0, 0, 0]

theorem join_head (w : World) (o : Obj) (Z : Array Value) (vo : Value) (l : List Int) (hZ : ∀ j, j < 20 → Z[j]? = some (.int .u8 0)) (ho : Bts w vo l) (hl : l.length ≤ 40) :
    Calls Tryd.prog 14 #[.slice (some ⟨w.heap.size + 1 + 1, 0, none⟩) 2 2, .slice none 0 0] (((w.alloc o).alloc (.cells Z 5)).alloc (.cells #[.slice (some ⟨w.heap.size + 1, 0, none⟩) 20 20, vo] 23)).drew fun e w' =>
      ∃ G cap, e = .returned (.slice (some ⟨G, 0, none⟩) (20 + l.length) cap) ∧ Sees w' G 0 (zeros20 ++ l) ∧ Below (w.alloc o).heap.size (w.alloc o) w' := by
  have b1 : Below w.heap.size w (w.alloc o) := below_alloc _ _
  have b2 : Below (w.alloc o).heap.size (w.alloc o) ((w.alloc o).alloc (.cells Z 5)) := below_alloc _ _
  have b3 : Below ((w.alloc o).alloc (.cells Z 5)).heap.size ((w.alloc o).alloc (.cells Z 5)) ((((w.alloc o).alloc (.cells Z 5)).alloc (.cells #[.slice (some ⟨w.heap.size + 1, 0, none⟩) 20 20, vo] 23)).drew) := below_drewN (below_alloc _ _) 1
  have hz : Sees ((w.alloc o).alloc (.cells Z 5)) (w.heap.size + 1) 0 zeros20 := by
    intro i hi
    have hi : i < 20 := hi
    have := World.cell?_alloc_mark (w.alloc o) Z 5 (0, 0) i
    rw [show (w.alloc o).heap.size = w.heap.size + 1 by simp] at this
    rw [Nat.zero_add, this, hZ i hi]
    have : i = 0 ∨ i = 1 ∨ i = 2 ∨ i = 3 ∨ i = 4 ∨ i = 5 ∨ i = 6 ∨ i = 7 ∨ i = 8 ∨ i = 9 ∨ i = 10 ∨ i = 11 ∨ i = 12 ∨ i = 13 ∨ i = 14 ∨ i = 15 ∨ i = 16 ∨ i = 17 ∨ i = 18 ∨ i = 19 := by omega
    rcases this with rfl | rfl | rfl | rfl | rfl | rfl | rfl | rfl | rfl | rfl | rfl | rfl | rfl | rfl | rfl | rfl | rfl | rfl | rfl | rfl <;> rfl
  have hB1 : Bts ((((w.alloc o).alloc (.cells Z 5)).alloc (.cells #[.slice (some ⟨w.heap.size + 1, 0, none⟩) 20 20, vo] 23)).drew) (.slice (some ⟨w.heap.size + 1, 0, none⟩) 20 20) zeros20 :=
    ⟨_, 20, w.heap.size + 1, 0, rfl, by decide, by decide, (by unfold isBytes zeros20; decide), .inl rfl, hz.later b3⟩
  have hB2 := ho.later (below_trans b1 (below_trans b2 b3))
  refine (join2 _ (w.heap.size + 1 + 1) _ vo zeros20 l ?_ ?_ hB1 hB2 (by show 20 + l.length ≤ _; omega)).mono ?_
  · have := World.cell?_alloc_mark ((w.alloc o).alloc (.cells Z 5)) #[.slice (some ⟨w.heap.size + 1, 0, none⟩) 20 20, vo] 23 (0, 0) 0
    rw [show ((w.alloc o).alloc (.cells Z 5)).heap.size = w.heap.size + 1 + 1 by simp] at this
    exact this
  · have := World.cell?_alloc_mark ((w.alloc o).alloc (.cells Z 5)) #[.slice (some ⟨w.heap.size + 1, 0, none⟩) 20 20, vo] 23 (0, 0) 1
    rw [show ((w.alloc o).alloc (.cells Z 5)).heap.size = w.heap.size + 1 + 1 by simp] at this
    exact this
  · rintro e w' ⟨v, rfl, ⟨g, cap, rfl, h2, h3, h4, h5, h6, h7⟩, hbel⟩
    exact ⟨g, cap, by simp [zeros20]; omega, h6, below_trans (below_trans b2 b3) hbel⟩

theorem lay_step (b off len cap : Nat) (l : List Int) (q m : Int) (p n : Nat) (x : Int) (w w0 : World) (hb0 : Below w0.heap.size w0 w) (hq : q = (p : Int)) (hm : m = (n : Int)) (hL : l.length = len)
    (hs : Sees w b off l) (h1 : 1 ≤ n) (h2 : n ≤ 8) (h3 : p + n ≤ len) (hx0 : 0 ≤ x) (hx1 : x < 9223372036854775808) (hreach : len ≤ 140737488351232) :
    Calls Tryd.prog 28 #[.slice (some ⟨b, off, none⟩) len cap, .int .i64 q, .int .i64 m, .int .i64 x] w fun e w' =>
      ∃ G L', e = .returned (.slice (some ⟨G, 0, none⟩) len len) ∧ Hid (L' = lay l p n x) ∧ Hid (L'.length = len) ∧ Sees w' G 0 L' ∧ Below w0.heap.size w0 w' := by
  refine (lay_yes b off len cap l q m p n x w hq hm hL hs h1 h2 h3 hx0 hx1 hreach).mono ?_
  rintro e w' ⟨G, rfl, hH, hb⟩
  refine ⟨G, _, rfl, (rfl : lay l p n x = lay l p n x), (by show (lay l p n x).length = len; rw [lay_length]; exact hL), ?_, below_trans hb0 hb⟩
  intro i hi
  rw [Nat.zero_add]
  exact hH.cell i (by rw [lay_length, hL] at hi; exact hi)

set_option maxHeartbeats 4000000 in
theorem header_any (p : Dg) (ao ab : Option Addr) (co cb : Nat) (w : World) (f : Fits p) (k : p.Ok) (ho : Bts w (.slice ao p.opts.length co) p.opts) :
    Calls Tryd.prog 15 #[ipV p (.slice ao p.opts.length co) (.slice ab p.body.length cb)] w fun e w' =>
      ∃ G, e = .returned (.slice (some ⟨G, 0, none⟩) (20 + p.opts.length) (20 + p.opts.length)) ∧ Sees w' G 0 (headB p (checkI p)) ∧ Below w.heap.size w w' := by
  obtain ⟨Z, hZ, hmk⟩ := make20
  have K1 := k.src0
  have K2 := k.src1
  have K3 := k.dst0
  have K4 := k.dst1
  have HK : Hid (p.Ok) := k
  obtain ⟨⟨t0, t1⟩, ⟨l0, l1⟩, ⟨q0, q1⟩, ⟨i0, i1⟩, ⟨o0, o1⟩, o40, o4, hall⟩ := f
  have hlen : p.opts.length + p.body.length ≤ 2028 := by unfold totalI at hall; omega
  have HT : Hid (0 ≤ totalI p ∧ totalI p ≤ 2048) := ⟨by unfold totalI; omega, hall⟩
  have hor1 := or64 ((20 + (p.opts.length : Int)) / 4) (by omega) (by omega)
  have hor2 := orF1 p.df p.mf
  have hor3 := orF2 p.df p.mf p.off o0 (by omega)
  have HF : Hid (0 ≤ flagI p.df 16384 + flagI p.mf 8192 + p.off ∧ flagI p.df 16384 + flagI p.mf 8192 + p.off < 32768) := by
    show _ ∧ _
    unfold flagI; split <;> split <;> omega
  clear k o4 hall
  go_enter Tryd.func15, Tryd.ntmps15
  go_wp2_with fail
  go_region_held3 (fun w' => w'.cell? ⟨w.heap.size, 9, none⟩ = some (.slice ao p.opts.length co)) (first | go_keep | (exact box_cell (by assumption) 9 _ rfl))
    (first | (go_at_call 14; refine (join_head w _ Z _ p.opts hZ.out ho o40).mono ?_; rintro e w1 ⟨G1, cap1, rfl, hs, hbox⟩))
  have HL0 : Hid ((zeros20 ++ p.opts).length = 20 + p.opts.length) := by show _ = _; simp [zeros20]; omega
  go_wp2_with fail
  refine (lay_step G1 0 (20 + p.opts.length) cap1 (zeros20 ++ p.opts) 0 1 0 1 (64 + (20 + (p.opts.length : Int)) / 4) _ _ hbox rfl rfl HL0.out hs (by decide) (by decide) (by omega) (by omega) (by omega) (by omega)).mono ?_
  clear hbox hs
  rintro e w2 ⟨G2, L2, rfl, E2, HL2, hs, hbox⟩
  have hcell := box_cell hbox 0 _ rfl
  go_wp2_with fail
  refine (lay_step G2 0 (20 + p.opts.length) (20 + p.opts.length) L2 1 1 1 1 (p.tos) _ _ hbox rfl rfl HL2.out hs (by decide) (by decide) (by omega) (by omega) (by omega) (by omega)).mono ?_
  clear hbox hs hcell
  rintro e w3 ⟨G3, L3, rfl, E3, HL3, hs, hbox⟩
  have d0 := box_cell hbox 0 _ rfl
  have d1 := box_cell hbox 1 _ rfl
  have d2 := box_cell hbox 2 _ rfl
  have d3 := box_cell hbox 3 _ rfl
  have d4 := box_cell hbox 4 _ rfl
  have d5 := box_cell hbox 5 _ rfl
  have d6 := box_cell hbox 6 _ rfl
  have d7 := box_cell hbox 7 _ rfl
  have d8 := box_cell hbox 8 _ rfl
  have d9 := box_cell hbox 9 _ rfl
  have d10 := box_cell hbox 10 _ rfl
  go_wp2_with fail
  refine (totalOf_any p ao ab co cb _ (by omega) (by omega)).mono ?_
  rintro e w3t ⟨rfl, hbt⟩
  clear d0 d1 d2 d3 d4 d5 d6 d7 d8 d9 d10
  have hs := hs.later hbt
  have hbox := below_trans hbox hbt
  clear hbt
  go_wp2_with fail
  refine (lay_step G3 0 (20 + p.opts.length) (20 + p.opts.length) L3 2 2 2 2 (totalI p) _ _ hbox rfl rfl HL3.out hs (by decide) (by decide) (by omega) HT.out.1 (by have := HT.out.2; omega) (by omega)).mono ?_
  clear hbox hs
  rintro e w4 ⟨G4, L4, rfl, E4, HL4, hs, hbox⟩
  have hcell := box_cell hbox 1 _ rfl
  go_wp2_with fail
  refine (lay_step G4 0 (20 + p.opts.length) (20 + p.opts.length) L4 4 2 4 2 (p.id) _ _ hbox rfl rfl HL4.out hs (by decide) (by decide) (by omega) (by omega) (by omega) (by omega)).mono ?_
  clear hbox hs hcell
  rintro e w5 ⟨G5, L5, rfl, E5, HL5, hs, hbox⟩
  have d2 := box_cell hbox 2 _ rfl
  have d3 := box_cell hbox 3 _ rfl
  have d4 := box_cell hbox 4 _ rfl
  go_wp2_with fail
  go_region_held3 (fun w' => w'.cell? ⟨w.heap.size, 2, none⟩ = some (.bool p.df) ∧ w'.cell? ⟨w.heap.size, 3, none⟩ = some (.bool p.mf) ∧ w'.cell? ⟨w.heap.size, 4, none⟩ = some (.int .i64 p.off)) (first | go_keep | (exact ⟨box_cell (by assumption) 2 _ rfl, box_cell (by assumption) 3 _ rfl, box_cell (by assumption) 4 _ rfl⟩))
    (first
      | (go_at_call 29; refine (flag_any _ _ _).mono ?_; rintro e w' ⟨rfl, rfl⟩)
      | (go_at_call 28; refine (lay_step G5 0 (20 + p.opts.length) (20 + p.opts.length) L5 6 2 6 2 (flagI p.df 16384 + flagI p.mf 8192 + p.off) _ _ (by exact below_drewN hbox 1) rfl rfl HL5.out (by exact hs) (by decide) (by decide) (by omega) HF.out.1 (by have := HF.out.2; omega) (by omega)).mono ?_; rintro e w6 ⟨G6, L6, rfl, E6, HL6, hs6, hbox6⟩))
  clear hs hbox d2 d3 d4
  have hs := hs6
  have hbox := hbox6
  clear hs6 hbox6
  have hcell := box_cell hbox 5 _ rfl
  go_wp2_with fail
  refine (lay_step G6 0 (20 + p.opts.length) (20 + p.opts.length) L6 8 1 8 1 (p.ttl) _ _ hbox rfl rfl HL6.out hs (by decide) (by decide) (by omega) (by omega) (by omega) (by omega)).mono ?_
  clear hbox hs hcell
  rintro e w7 ⟨G7, L7, rfl, E7, HL7, hs, hbox⟩
  have hcell := box_cell hbox 6 _ rfl
  go_wp2_with fail
  refine (lay_step G7 0 (20 + p.opts.length) (20 + p.opts.length) L7 9 1 9 1 (p.proto) _ _ hbox rfl rfl HL7.out hs (by decide) (by decide) (by omega) (by omega) (by omega) (by omega)).mono ?_
  clear hbox hs hcell
  rintro e w8 ⟨G8, L8, rfl, E8, HL8, hs, hbox⟩
  have hcell := box_cell hbox 7 _ rfl
  go_wp2_with fail
  refine (lay_step G8 0 (20 + p.opts.length) (20 + p.opts.length) L8 12 4 12 4 (p.src) _ _ hbox rfl rfl HL8.out hs (by decide) (by decide) (by omega) (by omega) (by omega) (by omega)).mono ?_
  clear hbox hs hcell
  rintro e w9 ⟨G9, L9, rfl, E9, HL9, hs, hbox⟩
  have hcell := box_cell hbox 8 _ rfl
  go_wp2_with fail
  refine (lay_step G9 0 (20 + p.opts.length) (20 + p.opts.length) L9 16 4 16 4 (p.dst) _ _ hbox rfl rfl HL9.out hs (by decide) (by decide) (by omega) (by omega) (by omega) (by omega)).mono ?_
  clear hbox hs hcell
  rintro e w10 ⟨G10, L10, rfl, E10, HL10, hs, hbox⟩
  have HE : Hid (L10 = headB p 0) := by
    show L10 = headB p 0
    rw [E10.out, E9.out, E8.out, E7.out, E6.out, E5.out, E4.out, E3.out, E2.out]
    rfl
  have hB : Bts w10 (.slice (some ⟨G10, 0, none⟩) (20 + p.opts.length) (20 + p.opts.length)) L10 :=
    ⟨_, 20 + p.opts.length, G10, 0, by rw [HL10.out], by rw [HL10.out]; exact Nat.le_refl _, by unfold maxLen; omega, by rw [HE.out]; exact head_bytes p 0 HK.out.opts, .inl rfl, hs⟩
  have hck := fold16_bd (ws L10)
  have htk := turn_fold (ws L10)
  have HC : Hid (0 ≤ turn16 (fold16 (ws L10)) ∧ turn16 (fold16 (ws L10)) ≤ 65535) := ⟨by omega, by omega⟩
  clear hck htk E2 E3 E4 E5 E6 E7 E8 E9 E10
  go_wp2_with fail
  refine (check_one _ _ _ L10 23 (by simp) hB (by rw [HL10.out]; omega)).mono ?_
  rintro e w11 ⟨rfl, rfl⟩
  go_wp2_with fail
  refine (lay_step G10 0 (20 + p.opts.length) (20 + p.opts.length) L10 10 2 10 2 _ _ _ (below_trans hbox (below_alloc _ _)) rfl rfl HL10.out (hs.later (below_alloc _ _)) (by decide) (by decide) (by omega) HC.out.1 (by have := HC.out.2; omega) (by omega)).mono ?_
  clear hbox hs hB
  rintro e w12 ⟨G12, L12, rfl, E12, HL12, hs, hbox⟩
  go_wp2
  go_ret
  refine ⟨G12, rfl, ?_, below_trans (below_alloc _ _) hbox⟩
  have : L12 = headB p (checkI p) := by
    rw [E12.out, HE.out]
    rfl
  rw [← this]
  exact hs
end Go.Proofs.YtkclbmhhlpdcnaaDoor
