/- The contract of word in the document's own answer for chapter 6. -/
import Derived.Test.YtdejjokgchbgnaaFrameReadAll
import Derived.Test.YtdejjokgchbgnaaFrameRquote8
import Derived.Test.YtdejjokgchbgnaaIcmpRparse
set_option maxRecDepth 100000
namespace Go.Proofs.Ytdejjokgchbgnaa
open Go.RowKit
attribute [local go_sem ↓] Go.wp_at_zero Go.wp_at_succ

set_option maxHeartbeats 4000000 in
theorem rw_no (p : Dg) (ao ab : Option Addr) (no co b off nb cb : Nat) (C : Array Value) (w : World) (HC : Hid (C = frC p (.slice ao no co) (.slice ab nb cb) ⟨0, 0, 0, 0, 0, Inn.zero⟩)) (ha : ab = some ⟨b, off, none⟩ ∨ p.body = []) (hA : At w b off nb cb p.body) (hl : nb ≤ 70000) (g : ¬ parseW p.body = 0) :
    Calls Try.prog 32 #[.agg C] w fun e w' => e = .returned (.tuple #[.agg zeroFC, .int .i64 (whyI (parseW p.body))]) ∧ Below w.heap.size w w' := by
  have hC22 : C.size = 22 := by rw [HC.out]; rfl
  have e10 : ∀ q : 10 < C.size, C[10]'q = .slice ab nb cb := by have := HC.out; subst this; intro q; rfl
  have hb1 := below_alloc w (.cells C 37)
  have hb2 := below_alloc (w.alloc (.cells C 37)) (.cells zeroFC 37)
  have hu := wrparse_no ab b off nb cb p.body _ ha (hA.later (below_trans hb1 hb2)) (by omega) g
  have hne : (parseW p.body != 0) = true := by rw [bne_iff_ne]; exact g
  clear hA g
  go_enter Try.func32, Try.ntmps32
  go_wp2_with fail
  refine hu.mono ?_
  rintro e w3 ⟨rfl, hb3⟩
  have F3 := fc_new (n := w.heap.size + 1) (by simp) hb3
  have hs3 := hb3.size
  simp only [World.size_alloc] at hs3
  have bel3 := below_trans (below_trans hb1 hb2) hb3
  clear hu hb1 hb2 hb3
  go_wp2_with fail
  refine (rwhy_any _ _).mono ?_
  rintro e w4 ⟨rfl, rfl⟩
  have F4 := F3.later (by omega) (below_alloc w3 (.cells (wdC Wd.zero (.slice none 0 0)) 87))
  have bel4 := below_trans bel3 (below_alloc w3 (.cells (wdC Wd.zero (.slice none 0 0)) 87))
  go_wp2_with (refine store_fr rfl (.tmp 2) (.tmp 17) rfl (w.heap.size + 1) zeroFC rfl rfl (F4.there rfl) rfl oneZ ?_)
  refine bodyPost_ret (results_fr2 rfl _ _ (w.heap.size + 1) _ rfl (range_set zeroFC.toList rfl (F4.there rfl)) rfl) rfl ?_
  exact ⟨rfl, setCells_below _ _ _ _ _ (by omega) bel4⟩
set_option maxHeartbeats 4000000 in
theorem rw_none (p : Dg) (ao : Option Addr) (no co b off nb cb : Nat) (C : Array Value) (w : World) (HC : Hid (C = frC p (.slice ao no co) (.slice (some ⟨b, off, none⟩) nb cb) ⟨0, 0, 0, 0, 0, Inn.zero⟩)) (hA : At w b off nb cb p.body) (hl : nb ≤ 70000) (g : WGood p.body) (hk : kindW (b1 p.body 0) (b1 p.body 1) = 0) :
    Calls Try.prog 32 #[.agg C] w fun e w' => e = .returned (.tuple #[.agg zeroFC, .int .i64 4]) ∧ Below w.heap.size w w' := by
  have hC22 : C.size = 22 := by rw [HC.out]; rfl
  have e10 : ∀ q : 10 < C.size, C[10]'q = .slice (some ⟨b, off, none⟩) nb cb := by have := HC.out; subst this; intro q; rfl
  have hb1 := below_alloc w (.cells C 37)
  have hb2 := below_alloc (w.alloc (.cells C 37)) (.cells zeroFC 37)
  have hu := wrparse_own b off nb cb p.body _ (hA.later (below_trans hb1 hb2)) (by omega) g
  have HR : Hid (0 ≤ (wdOf p.body).rest ∧ (wdOf p.body).rest < 4294967296) := w4_bd p.body hA.bytes 4
  have HQ : Hid ((wdOf p.body).rest / 65536 = w2 p.body 4) := w4_high p.body hA.bytes 4
  have HK : Hid (kindW (wdOf p.body).type (wdOf p.body).code = kindW (b1 p.body 0) (b1 p.body 1)) := (rfl : kindW (wdOf p.body).type (wdOf p.body).code = _)
  have HBD : Hid (isBytes (wdOf p.body).data) := isBytes_drop hA.bytes 8
  have HD : Hid ((wdOf p.body).data = p.body.drop 8) := (rfl : (wdOf p.body).data = _)
  clear hA g
  go_enter Try.func32, Try.ntmps32
  go_wp2_with fail
  refine hu.mono ?_
  rintro e w3 ⟨a1, k1, rfl, hD3, hb3⟩
  have F3 := fc_new (n := w.heap.size + 1) (by simp) hb3
  have G3 := fc_new (n := w.heap.size) rfl (below_trans hb2 hb3)
  have hs3 := hb3.size
  simp only [World.size_alloc] at hs3 hD3
  have bel3 := below_trans (below_trans hb1 hb2) hb3
  clear hu hb1 hb2 hb3 e10
  obtain ⟨m, hm⟩ : ∃ m, wdOf p.body = m := ⟨_, rfl⟩
  rw [hm] at HR HQ HK HD HBD hD3 ⊢
  clear hm
  go_wp2_with fail
  refine (rkind_any m a1 _ k1 _).mono ?_
  rintro e w4 ⟨rfl, hb4⟩
  have hb34 := below_trans (below_alloc _ _) hb4
  have F4 := F3.later (by omega) hb34
  have G4 := G3.later (by omega) hb34
  have bel4 := below_trans bel3 hb34
  have hD4 := hD3.later hb34
  have c11 : w4.cell? ⟨w.heap.size, 11, none⟩ = some (.int .i64 0) := G4.c 11 _ (by rw [HC.out]; rfl)
  have f11 := G4.f 11
  obtain ⟨C1, hC1⟩ : ∃ C1, C1 = C.set 11 (.int .i64 (kindW m.type m.code)) (by omega) := ⟨_, rfl⟩
  have HC1 : Hid (C1 = frC p (.slice ao no co) (.slice (some ⟨b, off, none⟩) nb cb) ⟨0, kindW m.type m.code, 0, 0, 0, Inn.zero⟩) := by
    show C1 = _
    subst hC1
    have := HC.out
    subst this
    rfl
  have hC122 : C1.size = 22 := by rw [HC1.out]; rfl
  have G5 : FC (w4.setCell ⟨w.heap.size, 11, none⟩ (.int .i64 (kindW m.type m.code))) w.heap.size C1 := by rw [hC1]; exact G4.set 11 (by omega) _
  have F5 : FC (w4.setCell ⟨w.heap.size, 11, none⟩ (.int .i64 (kindW m.type m.code))) (w.heap.size + 1) zeroFC := F4.far (by omega)
  have bel5 : Below w.heap.size w (w4.setCell ⟨w.heap.size, 11, none⟩ (.int .i64 (kindW m.type m.code))) := bel4.setCell (Nat.le_refl _) _
  have m2 : w4.cell? ⟨w3.heap.size, 2, none⟩ = some (.int .u32 m.rest) := box_cell hb4 2 _ rfl
  have m3 : w4.cell? ⟨w3.heap.size, 3, none⟩ = some (.slice a1 m.data.length k1) := box_cell hb4 3 _ rfl
  have hs4 := hb4.size
  simp only [World.size_alloc] at hs4
  have q1 : ¬ (w.heap.size = w3.heap.size) := by omega
  have q2 : ¬ (w3.heap.size = w.heap.size) := by omega
  have hD5 := (hD4.store (q := ⟨w.heap.size, 11, none⟩) (by show w.heap.size < w.heap.size + 1 + 1; omega) (.int .i64 (kindW m.type m.code))).bts HBD.out
  clear hC1 F3 G3 F4 G4 bel3 bel4 hb4 hD3 hD4
  have hk0 : kindW m.type m.code = 0 := by rw [HK.out]; exact hk
  rw [hk0] at F5 bel5 ⊢
  clear G5 HC1 hC122 hk0 HK hk
  go_wp2_with (refine store_fr rfl (.tmp 2) (.tmp 38) rfl (w.heap.size + 1) zeroFC rfl rfl (F5.there rfl) rfl oneZ ?_)
  refine bodyPost_ret (results_fr2 rfl _ _ (w.heap.size + 1) _ rfl (range_set zeroFC.toList rfl (F5.there rfl)) rfl) rfl ?_
  exact ⟨rfl, setCells_below _ _ _ _ _ (by omega) bel5⟩

set_option maxHeartbeats 4000000 in
theorem rw_echo (p : Dg) (ao : Option Addr) (no co b off nb cb : Nat) (C : Array Value) (w : World) (HC : Hid (C = frC p (.slice ao no co) (.slice (some ⟨b, off, none⟩) nb cb) ⟨0, 0, 0, 0, 0, Inn.zero⟩)) (hA : At w b off nb cb p.body) (hl : nb ≤ 70000) (g : WGood p.body) (hk0 : ¬ kindW (b1 p.body 0) (b1 p.body 1) = 0) (hk5 : ¬ kindW (b1 p.body 0) (b1 p.body 1) = 5) :
    Calls Try.prog 32 #[.agg C] w fun e w' => ∃ C', e = .returned (.tuple #[.agg C', .int .i64 0]) ∧ Hid (C' = frC p (.slice ao no co) (.slice (some ⟨b, off, none⟩) nb cb) ⟨0, kindW (b1 p.body 0) (b1 p.body 1), w2 p.body 4, w2 p.body 4, 0, Inn.zero⟩) ∧ Below w.heap.size w w' := by
  have hC22 : C.size = 22 := by rw [HC.out]; rfl
  have e10 : ∀ q : 10 < C.size, C[10]'q = .slice (some ⟨b, off, none⟩) nb cb := by have := HC.out; subst this; intro q; rfl
  have hb1 := below_alloc w (.cells C 37)
  have hb2 := below_alloc (w.alloc (.cells C 37)) (.cells zeroFC 37)
  have hu := wrparse_own b off nb cb p.body _ (hA.later (below_trans hb1 hb2)) (by omega) g
  have HR : Hid (0 ≤ (wdOf p.body).rest ∧ (wdOf p.body).rest < 4294967296) := w4_bd p.body hA.bytes 4
  have HQ : Hid ((wdOf p.body).rest / 65536 = w2 p.body 4) := w4_high p.body hA.bytes 4
  have HK : Hid (kindW (wdOf p.body).type (wdOf p.body).code = kindW (b1 p.body 0) (b1 p.body 1)) := (rfl : kindW (wdOf p.body).type (wdOf p.body).code = _)
  have HBD : Hid (isBytes (wdOf p.body).data) := isBytes_drop hA.bytes 8
  have HD : Hid ((wdOf p.body).data = p.body.drop 8) := (rfl : (wdOf p.body).data = _)
  clear hA g
  go_enter Try.func32, Try.ntmps32
  go_wp2_with fail
  refine hu.mono ?_
  rintro e w3 ⟨a1, k1, rfl, hD3, hb3⟩
  have F3 := fc_new (n := w.heap.size + 1) (by simp) hb3
  have G3 := fc_new (n := w.heap.size) rfl (below_trans hb2 hb3)
  have hs3 := hb3.size
  simp only [World.size_alloc] at hs3 hD3
  have bel3 := below_trans (below_trans hb1 hb2) hb3
  clear hu hb1 hb2 hb3 e10
  obtain ⟨m, hm⟩ : ∃ m, wdOf p.body = m := ⟨_, rfl⟩
  rw [hm] at HR HQ HK HD HBD hD3 ⊢
  clear hm
  go_wp2_with fail
  refine (rkind_any m a1 _ k1 _).mono ?_
  rintro e w4 ⟨rfl, hb4⟩
  have hb34 := below_trans (below_alloc _ _) hb4
  have F4 := F3.later (by omega) hb34
  have G4 := G3.later (by omega) hb34
  have bel4 := below_trans bel3 hb34
  have hD4 := hD3.later hb34
  have c11 : w4.cell? ⟨w.heap.size, 11, none⟩ = some (.int .i64 0) := G4.c 11 _ (by rw [HC.out]; rfl)
  have f11 := G4.f 11
  obtain ⟨C1, hC1⟩ : ∃ C1, C1 = C.set 11 (.int .i64 (kindW m.type m.code)) (by omega) := ⟨_, rfl⟩
  have HC1 : Hid (C1 = frC p (.slice ao no co) (.slice (some ⟨b, off, none⟩) nb cb) ⟨0, kindW m.type m.code, 0, 0, 0, Inn.zero⟩) := by
    show C1 = _
    subst hC1
    have := HC.out
    subst this
    rfl
  have hC122 : C1.size = 22 := by rw [HC1.out]; rfl
  have G5 : FC (w4.setCell ⟨w.heap.size, 11, none⟩ (.int .i64 (kindW m.type m.code))) w.heap.size C1 := by rw [hC1]; exact G4.set 11 (by omega) _
  have F5 : FC (w4.setCell ⟨w.heap.size, 11, none⟩ (.int .i64 (kindW m.type m.code))) (w.heap.size + 1) zeroFC := F4.far (by omega)
  have bel5 : Below w.heap.size w (w4.setCell ⟨w.heap.size, 11, none⟩ (.int .i64 (kindW m.type m.code))) := bel4.setCell (Nat.le_refl _) _
  have m2 : w4.cell? ⟨w3.heap.size, 2, none⟩ = some (.int .u32 m.rest) := box_cell hb4 2 _ rfl
  have m3 : w4.cell? ⟨w3.heap.size, 3, none⟩ = some (.slice a1 m.data.length k1) := box_cell hb4 3 _ rfl
  have hs4 := hb4.size
  simp only [World.size_alloc] at hs4
  have q1 : ¬ (w.heap.size = w3.heap.size) := by omega
  have q2 : ¬ (w3.heap.size = w.heap.size) := by omega
  have hD5 := (hD4.store (q := ⟨w.heap.size, 11, none⟩) (by show w.heap.size < w.heap.size + 1 + 1; omega) (.int .i64 (kindW m.type m.code))).bts HBD.out
  clear hC1 F3 G3 F4 G4 bel3 bel4 hb4 hD3 hD4
  have k0' : (kindW m.type m.code == 0) = false := by rw [HK.out]; simpa using hk0
  have k5' : (kindW m.type m.code == 5) = false := by rw [HK.out]; simpa using hk5
  have c13 : (w4.setCell ⟨w.heap.size, 11, none⟩ (.int .i64 (kindW m.type m.code))).cell? ⟨w.heap.size, 13, none⟩ = some (.int .i64 0) := G5.c 13 _ (by rw [HC1.out]; rfl)
  have c15 : (w4.setCell ⟨w.heap.size, 11, none⟩ (.int .i64 (kindW m.type m.code))).cell? ⟨w.heap.size, 15, none⟩ = some (.int .i64 0) := G5.c 15 _ (by rw [HC1.out]; rfl)
  have fz := G5.f
  have r11 : (w4.setCell ⟨w.heap.size, 11, none⟩ (.int .i64 (kindW m.type m.code))).cell? ⟨w.heap.size, 11, none⟩ = some (.int .i64 (kindW m.type m.code)) := G5.c 11 _ (by rw [HC1.out]; rfl)
  have m2' : (w4.setCell ⟨w.heap.size, 11, none⟩ (.int .i64 (kindW m.type m.code))).cell? ⟨w3.heap.size, 2, none⟩ = some (.int .u32 m.rest) := by rw [World.cell?_setCell_far _ ⟨w.heap.size, 11, none⟩ ⟨w3.heap.size, 2, none⟩ _ q1]; exact m2
  have hw : IntKind.i64.wrap (m.rest / 65536) = m.rest / 65536 := i64_id _ (by have := HR.out; omega) (by have := HR.out; omega)
  have G6 := G5.set 13 (by omega) (.int .i64 (m.rest / 65536))
  have G7 := G6.set 15 (by rw [Array.size_set]; omega) (.int .i64 (m.rest / 65536))
  have F7 := (F5.far (m := w.heap.size) (i := 13) (v := .int .i64 (m.rest / 65536)) (by omega)).far (m := w.heap.size) (i := 15) (v := .int .i64 (m.rest / 65536)) (by omega)
  have bel7 := (bel5.setCell (p := ⟨w.heap.size, 13, none⟩) (Nat.le_refl _) (.int .i64 (m.rest / 65536))).setCell (p := ⟨w.heap.size, 15, none⟩) (Nat.le_refl _) (.int .i64 (m.rest / 65536))
  obtain ⟨C', HC', G8⟩ : ∃ C', Hid (C' = frC p (.slice ao no co) (.slice (some ⟨b, off, none⟩) nb cb) ⟨0, kindW m.type m.code, m.rest / 65536, m.rest / 65536, 0, Inn.zero⟩) ∧ FC (((w4.setCell ⟨w.heap.size, 11, none⟩ (.int .i64 (kindW m.type m.code))).setCell ⟨w.heap.size, 13, none⟩ (.int .i64 (m.rest / 65536))).setCell ⟨w.heap.size, 15, none⟩ (.int .i64 (m.rest / 65536))) w.heap.size C' := by
    refine ⟨_, ?_, G7⟩
    show _ = _
    have := HC1.out
    subst this
    rfl
  have hC'22 : C'.size = 22 := by rw [HC'.out]; rfl
  have hst := run_store_fr C' (F7.there rfl) hC'22 (by rw [HC'.out]; exact oneFr _ _ _ _ _ _ _ _)
  have hr := range_set C'.toList (by simpa using hC'22) (F7.there rfl)
  have bel8 := setCells_below (w.heap.size + 1) C'.toList 0 _ w.heap.size (by omega) bel7
  have HRR : Hid (kindW m.type m.code = kindW (b1 p.body 0) (b1 p.body 1) ∧ m.rest / 65536 = w2 p.body 4) := ⟨HK.out, HQ.out⟩
  clear G5 G6 G7 F5 F7 bel5 bel7 hk0 hk5 HQ HK
  go_wp2_with (refine load_let rfl (.tmp 1) rfl w.heap.size rfl C' G8 hC'22 ?_)
  refine bodyPost_ret (results_let rfl _ _ (w.heap.size + 1) C' rfl hr hC'22) rfl ?_
  refine ⟨C', rfl, ?_, bel8⟩
  show C' = _
  rw [HC'.out, HRR.out.1, HRR.out.2]
end Go.Proofs.Ytdejjokgchbgnaa
