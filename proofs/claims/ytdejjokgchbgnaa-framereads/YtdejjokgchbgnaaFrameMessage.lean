/- The contract of the reader's message. -/
import Derived.Test.YtdejjokgchbgnaaFrameFault
set_option maxRecDepth 100000
namespace Go.Proofs.Ytdejjokgchbgnaa
open Go.RowKit
attribute [local go_sem ↓] Go.wp_at_zero Go.wp_at_succ

theorem sm_box {w3 W : World} {N : Nat} {p : Dg} {vo vb : Value} {m : Wd} {vd : Value} {T : TypeId} (c : w3.cell? ⟨N, 0, none⟩ = some (.int .i64 p.tos) ∧ w3.cell? ⟨N, 1, none⟩ = some (.int .i64 p.id) ∧ w3.cell? ⟨N, 2, none⟩ = some (.bool p.df) ∧ w3.cell? ⟨N, 3, none⟩ = some (.bool p.mf) ∧ w3.cell? ⟨N, 4, none⟩ = some (.int .i64 p.off) ∧ w3.cell? ⟨N, 5, none⟩ = some (.int .i64 p.ttl) ∧ w3.cell? ⟨N, 6, none⟩ = some (.int .i64 p.proto) ∧ w3.cell? ⟨N, 7, none⟩ = some (.int .u32 p.src) ∧ w3.cell? ⟨N, 8, none⟩ = some (.int .u32 p.dst) ∧ w3.cell? ⟨N, 9, none⟩ = some (vo) ∧ w3.cell? ⟨N, 10, none⟩ = some (vb)) (hb : Below (w3.alloc (.cells (wdC m vd) T)).heap.size (w3.alloc (.cells (wdC m vd) T)) W) :
    W.cell? ⟨N, 0, none⟩ = some (.int .i64 p.tos) ∧ W.cell? ⟨N, 1, none⟩ = some (.int .i64 p.id) ∧ W.cell? ⟨N, 2, none⟩ = some (.bool p.df) ∧ W.cell? ⟨N, 3, none⟩ = some (.bool p.mf) ∧ W.cell? ⟨N, 4, none⟩ = some (.int .i64 p.off) ∧ W.cell? ⟨N, 5, none⟩ = some (.int .i64 p.ttl) ∧ W.cell? ⟨N, 6, none⟩ = some (.int .i64 p.proto) ∧ W.cell? ⟨N, 7, none⟩ = some (.int .u32 p.src) ∧ W.cell? ⟨N, 8, none⟩ = some (.int .u32 p.dst) ∧ W.cell? ⟨N, 9, none⟩ = some (vo) ∧ W.cell? ⟨N, 10, none⟩ = some (vb) ∧ W.cell? ⟨w3.heap.size, 0, none⟩ = some (.int .i64 m.type) ∧ W.cell? ⟨w3.heap.size, 1, none⟩ = some (.int .i64 m.code) ∧ W.cell? ⟨w3.heap.size, 2, none⟩ = some (.int .u32 m.rest) ∧ W.cell? ⟨w3.heap.size, 3, none⟩ = some (vd) := by
  obtain ⟨c0, c1, c2, c3, c4, c5, c6, c7, c8, c9, c10⟩ := c
  have hb' := below_trans (below_alloc w3 (.cells (wdC m vd) T)) hb
  exact ⟨cell_later hb' c0, cell_later hb' c1, cell_later hb' c2, cell_later hb' c3, cell_later hb' c4, cell_later hb' c5, cell_later hb' c6, cell_later hb' c7, cell_later hb' c8, cell_later hb' c9, cell_later hb' c10, box_cell hb 0 _ rfl, box_cell hb 1 _ rfl, box_cell hb 2 _ rfl, box_cell hb 3 _ rfl⟩

set_option maxHeartbeats 4000000 in
theorem message_no (p : Dg) (ao ab : Option Addr) (no co b off nb cb : Nat) (w : World) (ha : ab = some ⟨b, off, none⟩ ∨ p.body = []) (hA : At w b off nb cb p.body) (hl : nb ≤ 70000) (g : ¬ parseW p.body = 0) :
    Calls Try.prog 45 #[ipV p (.slice ao no co) (.slice ab nb cb)] w fun e w' =>
      e = .returned (.tuple #[zeroFV, .int .i64 (whyI (parseW p.body))]) ∧ Below w.heap.size w w' := by
  have hb1 := below_alloc w (.cells (ipC p (.slice ao no co) (.slice ab nb cb)) 65)
  have hb2 := below_alloc (w.alloc (.cells (ipC p (.slice ao no co) (.slice ab nb cb)) 65)) (.cells zeroFC 37)
  have hu := wparse_no ab b off nb cb p.body _ ha (hA.later (below_trans hb1 hb2)) (by omega) g
  have hne : (parseW p.body != 0) = true := by rw [bne_iff_ne]; exact g
  clear hA g
  go_enter Try.func45, Try.ntmps45
  go_wp2_with fail
  refine hu.mono ?_
  rintro e w3 ⟨rfl, hb3⟩
  have F3 := fc_new (n := w.heap.size + 1) (by simp) hb3
  have hs3 := hb3.size
  simp only [World.size_alloc] at hs3
  have bel3 := below_trans (below_trans hb1 hb2) hb3
  clear hu hb1 hb2 hb3
  go_wp2_with fail
  refine (whyOf_any _ _).mono ?_
  rintro e w4 ⟨rfl, rfl⟩
  have F4 := F3.later (by omega) (below_alloc w3 (.cells (wdC Wd.zero (.slice none 0 0)) 87))
  have bel4 := below_trans bel3 (below_alloc w3 (.cells (wdC Wd.zero (.slice none 0 0)) 87))
  go_wp2_with (refine store_fr rfl (.tmp 2) (.tmp 16) rfl (w.heap.size + 1) zeroFC rfl rfl (F4.there rfl) rfl oneZ ?_)
  refine bodyPost_ret (results_fr2 rfl _ _ (w.heap.size + 1) _ rfl (range_set zeroFC.toList rfl (F4.there rfl)) rfl) rfl ?_
  exact ⟨rfl, setCells_below _ _ _ _ _ (by omega) bel4⟩

set_option maxHeartbeats 4000000 in
theorem message_none (p : Dg) (ao : Option Addr) (no co b off nb cb : Nat) (w : World) (hA : At w b off nb cb p.body) (hl : nb ≤ 70000) (g : WGood p.body) (hk : kindW (b1 p.body 0) (b1 p.body 1) = 0) :
    Calls Try.prog 45 #[ipV p (.slice ao no co) (.slice (some ⟨b, off, none⟩) nb cb)] w fun e w' => e = .returned (.tuple #[zeroFV, .int .i64 4]) ∧ Below w.heap.size w w' := by
  have hb1 := below_alloc w (.cells (ipC p (.slice ao no co) (.slice (some ⟨b, off, none⟩) nb cb)) 65)
  have hb2 := below_alloc (w.alloc (.cells (ipC p (.slice ao no co) (.slice (some ⟨b, off, none⟩) nb cb)) 65)) (.cells zeroFC 37)
  have hu := wparse_ok b off nb cb p.body _ (hA.later (below_trans hb1 hb2)) (by omega) g
  have hk' : kindW (wdOf p.body).type (wdOf p.body).code = 0 := hk
  clear hA g hk
  go_enter Try.func45, Try.ntmps45
  go_wp2_with fail
  refine hu.mono ?_
  rintro e w3 ⟨a1, k1, rfl, -, hb3⟩
  have F3 := fc_new (n := w.heap.size + 1) (by simp) hb3
  have hs3 := hb3.size
  simp only [World.size_alloc] at hs3
  have bel3 := below_trans (below_trans hb1 hb2) hb3
  clear hu hb1 hb2 hb3
  go_wp2_with fail
  refine (kind_any (wdOf p.body) a1 _ k1 _).mono ?_
  rintro e w4 ⟨rfl, hb4⟩
  rw [hk']
  have hb34 := below_trans (below_alloc _ _) hb4
  have F4 := F3.later (by omega) hb34
  have bel4 := below_trans bel3 hb34
  clear hb4 hb34 F3 bel3 hk'
  go_wp2_with (refine store_fr rfl (.tmp 2) (.tmp 31) rfl (w.heap.size + 1) zeroFC rfl rfl (F4.there rfl) rfl oneZ ?_)
  refine bodyPost_ret (results_fr2 rfl _ _ (w.heap.size + 1) _ rfl (range_set zeroFC.toList rfl (F4.there rfl)) rfl) rfl ?_
  exact ⟨rfl, setCells_below _ _ _ _ _ (by omega) bel4⟩

set_option maxHeartbeats 4000000 in
theorem message_fault (p : Dg) (ao : Option Addr) (no co b off nb cb : Nat) (w : World) (hA : At w b off nb cb p.body) (hl : nb ≤ 70000) (g : WGood p.body) (hk : kindW (b1 p.body 0) (b1 p.body 1) = 5) (C : Array Value) (y : Int) (hC : C.size = 22) (h1 : C.all (·.oneCell') = true)
    (hm : ∀ a1 k1 W, Bts W (.slice a1 (wdOf p.body).data.length k1) (wdOf p.body).data → Calls Try.prog 64 #[ipV p (.slice ao no co) (.slice (some ⟨b, off, none⟩) nb cb), .slice a1 (wdOf p.body).data.length k1] W fun e w' => e = .returned (.tuple #[.agg C, .int .i64 y]) ∧ Below W.heap.size W w') :
    Calls Try.prog 45 #[ipV p (.slice ao no co) (.slice (some ⟨b, off, none⟩) nb cb)] w fun e w' => e = .returned (.tuple #[.agg C, .int .i64 y]) ∧ Below w.heap.size w w' := by
  have hb1 := below_alloc w (.cells (ipC p (.slice ao no co) (.slice (some ⟨b, off, none⟩) nb cb)) 65)
  have hb2 := below_alloc (w.alloc (.cells (ipC p (.slice ao no co) (.slice (some ⟨b, off, none⟩) nb cb)) 65)) (.cells zeroFC 37)
  have hu := wparse_ok b off nb cb p.body _ (hA.later (below_trans hb1 hb2)) (by omega) g
  have hk' : kindW (wdOf p.body).type (wdOf p.body).code = 5 := hk
  clear hA g hk
  go_enter Try.func45, Try.ntmps45
  go_wp2_with fail
  refine hu.mono ?_
  rintro e w3 ⟨a1, k1, rfl, hD3, hb3⟩
  have F3 := fc_new (n := w.heap.size + 1) (by simp) hb3
  have cc := ip_box (below_trans hb2 hb3)
  have hs3 := hb3.size
  simp only [World.size_alloc] at hs3
  have bel3 := below_trans (below_trans hb1 hb2) hb3
  clear hu hb1 hb2 hb3
  go_wp2_with fail
  refine (kind_any (wdOf p.body) a1 _ k1 _).mono ?_
  rintro e w4 ⟨rfl, hb4⟩
  rw [hk']
  have hb34 := below_trans (below_alloc _ _) hb4
  have F4 := F3.later (by omega) hb34
  have bel4 := below_trans bel3 hb34
  have hD4 := hD3.later hb34
  have hmw := hm a1 k1 _ hD4
  obtain ⟨c0, c1, c2, c3, c4, c5, c6, c7, c8, c9, c10, e0, e1, e2, e3⟩ := sm_box cc hb4
  have hs4 := hb4.size
  simp only [World.size_alloc] at hs4
  clear hb4 F3 bel3 hk' cc hm hD3 hD4
  go_wp2_with fail
  refine hmw.mono ?_
  rintro e w5 ⟨rfl, hb5⟩
  have F5 := F4.later (by have := hb34.size; omega) hb5
  have bel5 := below_trans bel4 hb5
  have hst := run_store_fr C (F5.there rfl) hC h1
  have hr := range_set C.toList (by simpa using hC) (F5.there rfl)
  have bel6 := setCells_below (w.heap.size + 1) C.toList 0 _ w.heap.size (by omega) bel5
  clear c0 c1 c2 c3 c4 c5 c6 c7 c8 c9 c10 e0 e1 e2 e3 F4 bel4 hmw hb34
  go_wp2
  refine bodyPost_ret (results_let rfl _ _ (w.heap.size + 1) C rfl hr hC) rfl ?_
  exact ⟨rfl, bel6⟩

set_option maxHeartbeats 8000000 in
theorem message_echo (p : Dg) (ao : Option Addr) (no co b off nb cb : Nat) (w : World) (hA : At w b off nb cb p.body) (hl : nb ≤ 70000) (g : WGood p.body) (hk0 : ¬ kindW (b1 p.body 0) (b1 p.body 1) = 0) (hk5 : ¬ kindW (b1 p.body 0) (b1 p.body 1) = 5) :
    Calls Try.prog 45 #[ipV p (.slice ao no co) (.slice (some ⟨b, off, none⟩) nb cb)] w fun e w' =>
      e = .returned (.tuple #[frV p (.slice ao no co) (.slice (some ⟨b, off, none⟩) nb cb) ⟨0, kindW (b1 p.body 0) (b1 p.body 1), w2 p.body 4, w2 p.body 4, 0, Inn.zero⟩, .int .i64 0]) ∧ Below w.heap.size w w' := by
  have hb1 := below_alloc w (.cells (ipC p (.slice ao no co) (.slice (some ⟨b, off, none⟩) nb cb)) 65)
  have hb2 := below_alloc (w.alloc (.cells (ipC p (.slice ao no co) (.slice (some ⟨b, off, none⟩) nb cb)) 65)) (.cells zeroFC 37)
  have hu := wparse_ok b off nb cb p.body _ (hA.later (below_trans hb1 hb2)) (by omega) g
  have HR : Hid (0 ≤ (wdOf p.body).rest ∧ (wdOf p.body).rest < 4294967296) := w4_bd p.body hA.bytes 4
  have HQ : Hid ((wdOf p.body).rest / 65536 = w2 p.body 4) := w4_high p.body hA.bytes 4
  have hk0' : (kindW (wdOf p.body).type (wdOf p.body).code == 0) = false := by have q : ¬ kindW (wdOf p.body).type (wdOf p.body).code = 0 := hk0; simpa using q
  have hk5' : (kindW (wdOf p.body).type (wdOf p.body).code == 5) = false := by have q : ¬ kindW (wdOf p.body).type (wdOf p.body).code = 5 := hk5; simpa using q
  have HK : Hid (kindW (wdOf p.body).type (wdOf p.body).code = kindW (b1 p.body 0) (b1 p.body 1)) := (rfl : kindW (wdOf p.body).type (wdOf p.body).code = _)
  clear hA g hk0 hk5
  go_enter Try.func45, Try.ntmps45
  go_wp2_with fail
  refine hu.mono ?_
  rintro e w3 ⟨a1, k1, rfl, -, hb3⟩
  have F3 := fc_new (n := w.heap.size + 1) (by simp) hb3
  have cc := ip_box (below_trans hb2 hb3)
  have hs3 := hb3.size
  simp only [World.size_alloc] at hs3
  have bel3 := below_trans (below_trans hb1 hb2) hb3
  clear hu hb1 hb2 hb3
  obtain ⟨m, hm⟩ : ∃ m, wdOf p.body = m := ⟨_, rfl⟩
  rw [hm] at HR HQ hk0' hk5' HK ⊢
  obtain ⟨nd, hnd⟩ : ∃ nd, m.data.length = nd := ⟨_, rfl⟩
  rw [hnd]
  clear hm hnd
  go_wp2_with fail
  refine (kind_any m a1 nd k1 _).mono ?_
  rintro e w4 ⟨rfl, hb4⟩
  have HB4 : Hid (Below (w3.alloc (.cells (wdC m (.slice a1 nd k1)) 87)).heap.size (w3.alloc (.cells (wdC m (.slice a1 nd k1)) 87)) w4) := hb4
  have HF3 : Hid (FC w3 (w.heap.size + 1) zeroFC) := F3
  have HE3 : Hid (Below w.heap.size w w3) := bel3
  have HC : Hid (∀ W, Below (w3.alloc (.cells (wdC m (.slice a1 nd k1)) 87)).heap.size (w3.alloc (.cells (wdC m (.slice a1 nd k1)) 87)) W → W.cell? ⟨w.heap.size, 0, none⟩ = some (.int .i64 p.tos) ∧ W.cell? ⟨w.heap.size, 1, none⟩ = some (.int .i64 p.id) ∧ W.cell? ⟨w.heap.size, 2, none⟩ = some (.bool p.df) ∧ W.cell? ⟨w.heap.size, 3, none⟩ = some (.bool p.mf) ∧ W.cell? ⟨w.heap.size, 4, none⟩ = some (.int .i64 p.off) ∧ W.cell? ⟨w.heap.size, 5, none⟩ = some (.int .i64 p.ttl) ∧ W.cell? ⟨w.heap.size, 6, none⟩ = some (.int .i64 p.proto) ∧ W.cell? ⟨w.heap.size, 7, none⟩ = some (.int .u32 p.src) ∧ W.cell? ⟨w.heap.size, 8, none⟩ = some (.int .u32 p.dst) ∧ W.cell? ⟨w.heap.size, 9, none⟩ = some (.slice ao no co) ∧ W.cell? ⟨w.heap.size, 10, none⟩ = some (.slice (some ⟨b, off, none⟩) nb cb) ∧ W.cell? ⟨w3.heap.size, 0, none⟩ = some (.int .i64 m.type) ∧ W.cell? ⟨w3.heap.size, 1, none⟩ = some (.int .i64 m.code) ∧ W.cell? ⟨w3.heap.size, 2, none⟩ = some (.int .u32 m.rest) ∧ W.cell? ⟨w3.heap.size, 3, none⟩ = some (.slice a1 nd k1)) := fun W h => sm_box cc h
  have hnN : w.heap.size + 1 ≠ w.heap.size := by omega
  have hn3 : w.heap.size + 1 ≠ w3.heap.size := by omega
  have s4 := HC.out w4 hb4
  clear hb4 F3 bel3 cc
  go_wp2_with fail
  go_region_held3 (fun w' => w'.cell? ⟨w.heap.size, 0, none⟩ = some (.int .i64 p.tos) ∧ w'.cell? ⟨w.heap.size, 1, none⟩ = some (.int .i64 p.id) ∧ w'.cell? ⟨w.heap.size, 2, none⟩ = some (.bool p.df) ∧ w'.cell? ⟨w.heap.size, 3, none⟩ = some (.bool p.mf) ∧ w'.cell? ⟨w.heap.size, 4, none⟩ = some (.int .i64 p.off) ∧ w'.cell? ⟨w.heap.size, 5, none⟩ = some (.int .i64 p.ttl) ∧ w'.cell? ⟨w.heap.size, 6, none⟩ = some (.int .i64 p.proto) ∧ w'.cell? ⟨w.heap.size, 7, none⟩ = some (.int .u32 p.src) ∧ w'.cell? ⟨w.heap.size, 8, none⟩ = some (.int .u32 p.dst) ∧ w'.cell? ⟨w.heap.size, 9, none⟩ = some (.slice ao no co) ∧ w'.cell? ⟨w.heap.size, 10, none⟩ = some (.slice (some ⟨b, off, none⟩) nb cb) ∧ w'.cell? ⟨w3.heap.size, 0, none⟩ = some (.int .i64 m.type) ∧ w'.cell? ⟨w3.heap.size, 1, none⟩ = some (.int .i64 m.code) ∧ w'.cell? ⟨w3.heap.size, 2, none⟩ = some (.int .u32 m.rest) ∧ w'.cell? ⟨w3.heap.size, 3, none⟩ = some (.slice a1 nd k1)) (first | (with_reducible exact s4) | (exact HC.out _ (below_drewN HB4.out 1)) | (with_reducible exact HC.out _ hb5) | (with_reducible exact HC.out _ hb6) | (with_reducible exact HC.out _ hb7) | (simp only [far_set _ _ hnN, far_set _ _ hn3]; exact HC.out _ hb7))
    (first
      | (go_at_call 65; first | (have hb6' := hb5; refine (number_of m a1 nd k1 _ HR.out.1 HR.out.2).mono ?_; rintro e w6 ⟨rfl, hb6''⟩; have hb6 := below_trans hb5 hb6'') | (refine (number_of m a1 nd k1 _ HR.out.1 HR.out.2).mono ?_; rintro e w5 ⟨rfl, hb5'⟩; have hb5 := below_trans (below_drewN HB4.out 1) hb5'))
      | (go_at_call 60; refine (frame_let p ao (some ⟨b, off, none⟩) no nb co cb _ _ _ _).mono ?_; rintro e w7 ⟨C, rfl, HCC, hb7'⟩; have hb7 := below_trans hb6 hb7'; have F7 := HF3.out.later (by omega) (below_trans (below_alloc _ _) hb7); have hC22 : C.size = 22 := congrArg Array.size HCC.out; have hst := run_store_fr C (F7.there rfl) hC22 (by rw [HCC.out]; exact oneFr _ _ _ _ _ _ _ _)))
  have hr := range_set C.toList (by simpa using hC22) (F7.there rfl)
  have bel7 := below_trans HE3.out (below_trans (below_alloc _ _) hb7)
  have bel8 := setCells_below (w.heap.size + 1) C.toList 0 _ w.heap.size (by omega) bel7
  go_wp2
  refine bodyPost_ret (results_let rfl _ _ (w.heap.size + 1) C rfl hr hC22) rfl ?_
  exact ⟨by rw [HCC.out, HQ.out, HK.out]; rfl, bel8⟩
end Go.Proofs.Ytdejjokgchbgnaa
