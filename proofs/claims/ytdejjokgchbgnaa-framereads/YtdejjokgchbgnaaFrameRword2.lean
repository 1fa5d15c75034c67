/- More of word in the document's own answer for chapter 6. -/
import Derived.Test.YtdejjokgchbgnaaFrameRword
import Derived.Test.YtdejjokgchbgnaaFrameRquote8
import Derived.Test.YtdejjokgchbgnaaIcmpRparse
set_option maxRecDepth 100000
namespace Go.Proofs.Ytdejjokgchbgnaa
open Go.RowKit
attribute [local go_sem ↓] Go.wp_at_zero Go.wp_at_succ

theorem infoI : (Try.prog.info? 35).map (·.size) = some 5 := by kernel_rfl

/-- The making of a variable for what is quoted and the store into it, as one step of the walk. -/
theorem alloc_inner {ops : Array Oper} {rest : List Oper} {op op2 : Oper} {a : Act} {w : World} {Q : Exit → Act → World → Prop} (g1 : op.guard = none) (h1 : op.op = .alloc 35) (g2 : op2.guard = none) (x y : Operand) (h2 : op2.op = .store 35 x y) (z : Inn)
    (hx : (a.put op.dst (.pointer (some ⟨w.heap.size, 0, none⟩))).eval x = .pointer (some ⟨w.heap.size, 0, none⟩)) (hy : (a.put op.dst (.pointer (some ⟨w.heap.size, 0, none⟩))).eval y = inV z)
    (W5 : World) (hW : (w.alloc (.cells zeroIC 35)).setCells w.heap.size 0 (inC z).toList = W5)
    (h : wpList Try.prog ops Q rest ((a.put op.dst (.pointer (some ⟨w.heap.size, 0, none⟩))).put op2.dst undef) W5) : wpList Try.prog ops Q (op :: op2 :: rest) a w := by
  have ht : (w.alloc (.cells zeroIC 35)).there w.heap.size 0 5 := fun j hj => by
    have F := fc_new (w := w) (C := zeroIC) (t := 35) (n := w.heap.size) rfl (Below.refl _ _)
    rw [Nat.zero_add]
    exact ⟨by rw [F.c j _ (Array.getElem?_eq_getElem (show j < zeroIC.size from hj))]; rfl, F.f j⟩
  refine wpList_plain g1 fun _ hK => ?_
  have hk := hK _ _ (wpList_store_mid (P := Try.prog) g2 35 x y h2 w.heap.size 0 (inC z) hx hy ht infoI (by simp [Value.oneCell']) (by rw [hW]; exact h))
  unfold Oper.wp execOp
  simp only [h1]
  simp [go_sem]
  exact hk

/-- The load of what is quoted, as one step of the walk. -/
theorem load_inn {ops : Array Oper} {rest : List Oper} {op : Oper} {a : Act} {w : World} {Q : Exit → Act → World → Prop} (hgd : op.guard = none) (x : Operand) (ho : op.op = .load 35 x)
    (n : Nat) (hx : a.eval x = .pointer (some ⟨n, 0, none⟩)) (z : Inn) (hr : w.rangeAt n 0 (inC z).toList)
    (h : wpList Try.prog ops Q rest (a.put op.dst (inV z)) w) : wpList Try.prog ops Q (op :: rest) a w :=
  wpList_load_mid (P := Try.prog) hgd 35 x ho n 0 hx (inC z).toList _ hr Try.underlying35 rfl infoI h

/-- The store of what is quoted, as one step of the walk. -/
theorem store_inn {ops : Array Oper} {rest : List Oper} {op : Oper} {a : Act} {w : World} {Q : Exit → Act → World → Prop} (hgd : op.guard = none) (x y : Operand) (ho : op.op = .store 35 x y)
    (n o : Nat) (z : Inn) (hx : a.eval x = .pointer (some ⟨n, o, none⟩)) (hy : a.eval y = inV z) (ht : w.there n o 5)
    (h : wpList Try.prog ops Q rest (a.put op.dst undef) (w.setCells n o (inC z).toList)) : wpList Try.prog ops Q (op :: rest) a w :=
  wpList_store_mid (P := Try.prog) hgd 35 x y ho n o (inC z) hx hy ht infoI (by simp [Value.oneCell']) h

set_option maxHeartbeats 1500000 in
theorem rw_fno (p : Dg) (ao : Option Addr) (no co b off nb cb : Nat) (C : Array Value) (w : World) (HC : Hid (C = frC p (.slice ao no co) (.slice (some ⟨b, off, none⟩) nb cb) ⟨0, 0, 0, 0, 0, Inn.zero⟩)) (hA : At w b off nb cb p.body) (hl : nb ≤ 70000) (g : WGood p.body) (hk : kindW (b1 p.body 0) (b1 p.body 1) = 5) (hq : quoteO (p.body.drop 8) = none) :
    Calls Try.prog 32 #[.agg C] w fun e w' => e = .returned (.tuple #[.agg zeroFC, .int .i64 1]) ∧ Below w.heap.size w w' := by
  have hC22 : C.size = 22 := by rw [HC.out]; rfl
  have e10 : ∀ q : 10 < C.size, C[10]'q = .slice (some ⟨b, off, none⟩) nb cb := by have := HC.out; subst this; intro q; rfl
  have hb1 := below_alloc w (.cells C 37)
  have hb2 := below_alloc (w.alloc (.cells C 37)) (.cells zeroFC 37)
  have hu := wrparse_own b off nb cb p.body _ (hA.later (below_trans hb1 hb2)) (by omega) g
  have HR : Hid (0 ≤ (wdOf p.body).rest ∧ (wdOf p.body).rest < 4294967296) := w4_bd p.body hA.bytes 4
  have HQ : Hid ((wdOf p.body).rest / 65536 = w2 p.body 4) := w4_high p.body hA.bytes 4
  have HK : Hid (kindW (wdOf p.body).type (wdOf p.body).code = kindW (b1 p.body 0) (b1 p.body 1)) := (rfl : kindW (wdOf p.body).type (wdOf p.body).code = _)
  have HBD : Hid (isBytes (wdOf p.body).data) := isBytes_drop hA.bytes 8
  have HD : Hid ((wdOf p.body).data = p.body.drop 8) := (rfl : (wdOf p.body).data = _)
  have HL : Hid (p.body.length ≤ 70000) := by show _ ≤ _; rw [hA.len]; exact hl
  clear hA g
  go_enter Try.func32, Try.ntmps32
  go_wp2_with fail
  refine hu.mono ?_
  rintro e w3 ⟨a1, k1, rfl, hD3, hb3⟩
  have F3 := fc_new (n := w.heap.size + 1) (by simp) hb3
  have G3 := fc_new (n := w.heap.size) rfl (below_trans hb2 hb3)
  have hs3 := hb3.size
  simp only [World.size_alloc] at hs3 hD3
  have bel3 := below_trans (below_trans hb1 hb2) hb3
  clear hu hb1 hb2 hb3 e10
  obtain ⟨m, hm⟩ : ∃ m, wdOf p.body = m := ⟨_, rfl⟩
  rw [hm] at HR HQ HK HD HBD hD3 ⊢
  clear hm
  go_wp2_with fail
  refine (rkind_any m a1 _ k1 _).mono ?_
  rintro e w4 ⟨rfl, hb4⟩
  have hb34 := below_trans (below_alloc _ _) hb4
  have F4 := F3.later (by omega) hb34
  have G4 := G3.later (by omega) hb34
  have bel4 := below_trans bel3 hb34
  have hD4 := hD3.later hb34
  have c11 : w4.cell? ⟨w.heap.size, 11, none⟩ = some (.int .i64 0) := G4.c 11 _ (by rw [HC.out]; rfl)
  have f11 := G4.f 11
  obtain ⟨C1, hC1⟩ : ∃ C1, C1 = C.set 11 (.int .i64 (kindW m.type m.code)) (by omega) := ⟨_, rfl⟩
  have HC1 : Hid (C1 = frC p (.slice ao no co) (.slice (some ⟨b, off, none⟩) nb cb) ⟨0, kindW m.type m.code, 0, 0, 0, Inn.zero⟩) := by
    show C1 = _
    subst hC1
    have := HC.out
    subst this
    rfl
  have hC122 : C1.size = 22 := by rw [HC1.out]; rfl
  have G5 : FC (w4.setCell ⟨w.heap.size, 11, none⟩ (.int .i64 (kindW m.type m.code))) w.heap.size C1 := by rw [hC1]; exact G4.set 11 (by omega) _
  have F5 : FC (w4.setCell ⟨w.heap.size, 11, none⟩ (.int .i64 (kindW m.type m.code))) (w.heap.size + 1) zeroFC := F4.far (by omega)
  have bel5 : Below w.heap.size w (w4.setCell ⟨w.heap.size, 11, none⟩ (.int .i64 (kindW m.type m.code))) := bel4.setCell (Nat.le_refl _) _
  have m2 : w4.cell? ⟨w3.heap.size, 2, none⟩ = some (.int .u32 m.rest) := box_cell hb4 2 _ rfl
  have m3 : w4.cell? ⟨w3.heap.size, 3, none⟩ = some (.slice a1 m.data.length k1) := box_cell hb4 3 _ rfl
  have hs4 := hb4.size
  simp only [World.size_alloc] at hs4
  have q1 : ¬ (w.heap.size = w3.heap.size) := by omega
  have q2 : ¬ (w3.heap.size = w.heap.size) := by omega
  have hD5 := (hD4.store (q := ⟨w.heap.size, 11, none⟩) (by show w.heap.size < w.heap.size + 1 + 1; omega) (.int .i64 (kindW m.type m.code))).bts HBD.out
  clear hC1 F3 G3 F4 G4 bel3 bel4 hb4 hD3 hD4
  have k5 : kindW m.type m.code = 5 := by rw [HK.out]; exact hk
  have r11 : (w4.setCell ⟨w.heap.size, 11, none⟩ (.int .i64 (kindW m.type m.code))).cell? ⟨w.heap.size, 11, none⟩ = some (.int .i64 (kindW m.type m.code)) := G5.c 11 _ (by rw [HC1.out]; rfl)
  have m3' : (w4.setCell ⟨w.heap.size, 11, none⟩ (.int .i64 (kindW m.type m.code))).cell? ⟨w3.heap.size, 3, none⟩ = some (.slice a1 m.data.length k1) := by rw [World.cell?_setCell_far _ ⟨w.heap.size, 11, none⟩ ⟨w3.heap.size, 3, none⟩ _ q1]; exact m3
  obtain ⟨hnd, b3, off3, ha3, hA3⟩ := hD5.at_ne
  have hqq := rquote_no a1 b3 off3 _ k1 m.data _ ha3 hA3 (by rw [HD.out, List.length_drop]; have := HL.out; omega) (by rw [HD.out]; exact hq)
  rw [k5] at F5 bel5 r11 m3' hqq ⊢
  clear G5 HC1 hC122 HK hk hq hA3 ha3 hD5
  go_wp2_with fail
  refine hqq.mono ?_
  rintro e w6 ⟨rfl, hb6⟩
  have hb67 := below_trans hb6 (below_alloc w6 (.cells (inC Inn.zero) 35))
  have F7 := F5.later (by show w.heap.size + 1 < _; rw [World.size_setCell]; omega) hb67
  have bel7 := below_trans bel5 hb67
  clear hqq r11 m3' F5 bel5 hb6 hb67
  go_wp2_with (refine store_fr rfl (.tmp 2) (.tmp 49) rfl (w.heap.size + 1) zeroFC rfl rfl (F7.there rfl) rfl oneZ ?_)
  refine bodyPost_ret (results_fr2 rfl _ _ (w.heap.size + 1) _ rfl (range_set zeroFC.toList rfl (F7.there rfl)) rfl) rfl ?_
  exact ⟨rfl, setCells_below _ _ _ _ _ (by omega) bel7⟩

set_option maxHeartbeats 1500000 in
theorem rw_fok (p : Dg) (ao : Option Addr) (no co b off nb cb : Nat) (C : Array Value) (w : World) (HC : Hid (C = frC p (.slice ao no co) (.slice (some ⟨b, off, none⟩) nb cb) ⟨0, 0, 0, 0, 0, Inn.zero⟩)) (hA : At w b off nb cb p.body) (hl : nb ≤ 70000) (x : Inn) (g : WGood p.body) (hk : kindW (b1 p.body 0) (b1 p.body 1) = 5) (hq : quoteO (p.body.drop 8) = some x) :
    Calls Try.prog 32 #[.agg C] w fun e w' => ∃ C', e = .returned (.tuple #[.agg C', .int .i64 0]) ∧ Hid (C' = frC p (.slice ao no co) (.slice (some ⟨b, off, none⟩) nb cb) ⟨0, 5, 0, 0, 0, x⟩) ∧ Below w.heap.size w w' := by
  have hC22 : C.size = 22 := by rw [HC.out]; rfl
  have e10 : ∀ q : 10 < C.size, C[10]'q = .slice (some ⟨b, off, none⟩) nb cb := by have := HC.out; subst this; intro q; rfl
  have hb1 := below_alloc w (.cells C 37)
  have hb2 := below_alloc (w.alloc (.cells C 37)) (.cells zeroFC 37)
  have hu := wrparse_own b off nb cb p.body _ (hA.later (below_trans hb1 hb2)) (by omega) g
  have HR : Hid (0 ≤ (wdOf p.body).rest ∧ (wdOf p.body).rest < 4294967296) := w4_bd p.body hA.bytes 4
  have HQ : Hid ((wdOf p.body).rest / 65536 = w2 p.body 4) := w4_high p.body hA.bytes 4
  have HK : Hid (kindW (wdOf p.body).type (wdOf p.body).code = kindW (b1 p.body 0) (b1 p.body 1)) := (rfl : kindW (wdOf p.body).type (wdOf p.body).code = _)
  have HBD : Hid (isBytes (wdOf p.body).data) := isBytes_drop hA.bytes 8
  have HD : Hid ((wdOf p.body).data = p.body.drop 8) := (rfl : (wdOf p.body).data = _)
  have HL : Hid (p.body.length ≤ 70000) := by show _ ≤ _; rw [hA.len]; exact hl
  clear hA g
  go_enter Try.func32, Try.ntmps32
  go_wp2_with fail
  refine hu.mono ?_
  rintro e w3 ⟨a1, k1, rfl, hD3, hb3⟩
  have F3 := fc_new (n := w.heap.size + 1) (by simp) hb3
  have G3 := fc_new (n := w.heap.size) rfl (below_trans hb2 hb3)
  have hs3 := hb3.size
  simp only [World.size_alloc] at hs3 hD3
  have bel3 := below_trans (below_trans hb1 hb2) hb3
  clear hu hb1 hb2 hb3 e10
  obtain ⟨m, hm⟩ : ∃ m, wdOf p.body = m := ⟨_, rfl⟩
  rw [hm] at HR HQ HK HD HBD hD3 ⊢
  clear hm
  go_wp2_with fail
  refine (rkind_any m a1 _ k1 _).mono ?_
  rintro e w4 ⟨rfl, hb4⟩
  have hb34 := below_trans (below_alloc _ _) hb4
  have F4 := F3.later (by omega) hb34
  have G4 := G3.later (by omega) hb34
  have bel4 := below_trans bel3 hb34
  have hD4 := hD3.later hb34
  have c11 : w4.cell? ⟨w.heap.size, 11, none⟩ = some (.int .i64 0) := G4.c 11 _ (by rw [HC.out]; rfl)
  have f11 := G4.f 11
  obtain ⟨C1, hC1⟩ : ∃ C1, C1 = C.set 11 (.int .i64 (kindW m.type m.code)) (by omega) := ⟨_, rfl⟩
  have HC1 : Hid (C1 = frC p (.slice ao no co) (.slice (some ⟨b, off, none⟩) nb cb) ⟨0, kindW m.type m.code, 0, 0, 0, Inn.zero⟩) := by
    show C1 = _
    subst hC1
    have := HC.out
    subst this
    rfl
  have hC122 : C1.size = 22 := by rw [HC1.out]; rfl
  have G5 : FC (w4.setCell ⟨w.heap.size, 11, none⟩ (.int .i64 (kindW m.type m.code))) w.heap.size C1 := by rw [hC1]; exact G4.set 11 (by omega) _
  have F5 : FC (w4.setCell ⟨w.heap.size, 11, none⟩ (.int .i64 (kindW m.type m.code))) (w.heap.size + 1) zeroFC := F4.far (by omega)
  have bel5 : Below w.heap.size w (w4.setCell ⟨w.heap.size, 11, none⟩ (.int .i64 (kindW m.type m.code))) := bel4.setCell (Nat.le_refl _) _
  have m2 : w4.cell? ⟨w3.heap.size, 2, none⟩ = some (.int .u32 m.rest) := box_cell hb4 2 _ rfl
  have m3 : w4.cell? ⟨w3.heap.size, 3, none⟩ = some (.slice a1 m.data.length k1) := box_cell hb4 3 _ rfl
  have hs4 := hb4.size
  simp only [World.size_alloc] at hs4
  have q1 : ¬ (w.heap.size = w3.heap.size) := by omega
  have q2 : ¬ (w3.heap.size = w.heap.size) := by omega
  have hD5 := (hD4.store (q := ⟨w.heap.size, 11, none⟩) (by show w.heap.size < w.heap.size + 1 + 1; omega) (.int .i64 (kindW m.type m.code))).bts HBD.out
  clear hC1 F3 G3 F4 G4 bel3 bel4 hb4 hD3 hD4
  have k5 : kindW m.type m.code = 5 := by rw [HK.out]; exact hk
  have r11 : (w4.setCell ⟨w.heap.size, 11, none⟩ (.int .i64 (kindW m.type m.code))).cell? ⟨w.heap.size, 11, none⟩ = some (.int .i64 (kindW m.type m.code)) := G5.c 11 _ (by rw [HC1.out]; rfl)
  have m3' : (w4.setCell ⟨w.heap.size, 11, none⟩ (.int .i64 (kindW m.type m.code))).cell? ⟨w3.heap.size, 3, none⟩ = some (.slice a1 m.data.length k1) := by rw [World.cell?_setCell_far _ ⟨w.heap.size, 11, none⟩ ⟨w3.heap.size, 3, none⟩ _ q1]; exact m3
  obtain ⟨hnd, b3, off3, ha3, hA3⟩ := hD5.at_ne
  have ha3' : a1 = some ⟨b3, off3, none⟩ := by
    rcases ha3 with h | h
    · exact h
    · have hn : ¬ Head (p.body.drop 8) := fun q => by have := q.a; rw [← HD.out, h] at this; simp at this
      unfold quoteO at hq
      rw [if_neg (fun q => hn q.1)] at hq
      cases hq
  subst ha3'
  have hqq := rquote_ok b3 off3 _ k1 m.data x _ hA3 (by rw [HD.out, List.length_drop]; have := HL.out; omega) (by rw [HD.out]; exact hq)
  rw [k5] at F5 G5 bel5 r11 m3' hqq HC1 ⊢
  clear HK hk hq hA3 ha3 hD5
  go_wp2_with fail
  refine hqq.mono ?_
  rintro e w6 ⟨rfl, hb6⟩
  have hs6 := hb6.size
  rw [World.size_setCell] at hs6
  have hb67 := below_trans hb6 (below_alloc w6 (.cells (inC x) 35))
  have F6 := F5.later (by show w.heap.size + 1 < _; rw [World.size_setCell]; omega) hb6
  have G6 := G5.later (by show w.heap.size < _; rw [World.size_setCell]; omega) hb6
  have bel6 := below_trans bel5 hb6
  have q6 : w.heap.size < w6.heap.size := by omega
  have q7 : ¬ (w6.heap.size = w.heap.size) := by omega
  have q8 : ¬ (w.heap.size = w6.heap.size) := by omega
  have e17 : w6.cell? ⟨w.heap.size, 17, none⟩ = some (.int .i64 0) := G6.c 17 _ (by rw [HC1.out]; rfl)
  have e18 : w6.cell? ⟨w.heap.size, 18, none⟩ = some (.int .u32 0) := G6.c 18 _ (by rw [HC1.out]; rfl)
  have e19 : w6.cell? ⟨w.heap.size, 19, none⟩ = some (.int .i64 0) := G6.c 19 _ (by rw [HC1.out]; rfl)
  have e20 : w6.cell? ⟨w.heap.size, 20, none⟩ = some (.int .u32 0) := G6.c 20 _ (by rw [HC1.out]; rfl)
  have e21 : w6.cell? ⟨w.heap.size, 21, none⟩ = some (.int .i64 0) := G6.c 21 _ (by rw [HC1.out]; rfl)
  have fz := G6.f
  obtain ⟨W7, HW7⟩ : ∃ W7, Hid ((w6.alloc (.cells zeroIC 35)).setCells w6.heap.size 0 (inC x).toList = W7) := ⟨_, (rfl : _ = _)⟩
  have hb7 : Below w6.heap.size w6 W7 := by rw [← HW7.out]; exact setCells_below _ _ _ _ _ (Nat.le_refl _) (below_alloc _ _)
  have I7 : ∀ i v, (inC x)[i]? = some v → W7.cell? ⟨w6.heap.size, i, none⟩ = some v := by
    intro i v hv
    have hr := World.rangeAt_setCells_same (w6.alloc (.cells zeroIC 35)) w6.heap.size 0 (inC x).toList (fun j hj => by
      have F := fc_new (w := w6) (C := zeroIC) (t := 35) (n := w6.heap.size) rfl (Below.refl _ _)
      rw [Nat.zero_add]
      exact ⟨by rw [F.c j _ (Array.getElem?_eq_getElem (show j < zeroIC.size from hj))]; rfl, F.f j⟩)
    rw [HW7.out] at hr
    have := hr i v (by simpa using hv)
    rwa [Nat.zero_add] at this
  have i0 : W7.cell? ⟨w6.heap.size, 0, none⟩ = some (.int .i64 x.proto) := I7 0 _ rfl
  have i1 : W7.cell? ⟨w6.heap.size, 1, none⟩ = some (.int .u32 x.sa) := I7 1 _ rfl
  have i2 : W7.cell? ⟨w6.heap.size, 2, none⟩ = some (.int .i64 x.sp) := I7 2 _ rfl
  have i3 : W7.cell? ⟨w6.heap.size, 3, none⟩ = some (.int .u32 x.da) := I7 3 _ rfl
  have i4 : W7.cell? ⟨w6.heap.size, 4, none⟩ = some (.int .i64 x.dp) := I7 4 _ rfl
  have e17 := cell_later hb7 e17
  have e18 := cell_later hb7 e18
  have e19 := cell_later hb7 e19
  have e20 := cell_later hb7 e20
  have e21 := cell_later hb7 e21
  have F7 := F6.later (by omega) hb7
  have G7 := G6.later (by omega) hb7
  have fz := G7.f
  have bel7 := below_trans bel6 hb7
  have G8 := G7.set 17 (by rw [hC122]; decide) (.int .i64 x.proto)
  have G9 := G8.set 18 (by rw [Array.size_set, hC122]; decide) (.int .u32 x.sa)
  have G10 := G9.set 19 (by simp only [Array.size_set, hC122]; decide) (.int .i64 x.sp)
  have G11 := G10.set 20 (by simp only [Array.size_set, hC122]; decide) (.int .u32 x.da)
  have G12 := G11.set 21 (by simp only [Array.size_set, hC122]; decide) (.int .i64 x.dp)
  obtain ⟨W8, HW8⟩ : ∃ W8, Hid (W7.setCells w.heap.size 17 (inC x).toList = W8) := ⟨_, (rfl : _ = _)⟩
  have G12' : FC (W7.setCells w.heap.size 17 (inC x).toList) w.heap.size _ := G12
  rw [HW8.out] at G12'
  obtain ⟨C', HC', G13⟩ : ∃ C', Hid (C' = frC p (.slice ao no co) (.slice (some ⟨b, off, none⟩) nb cb) ⟨0, 5, 0, 0, 0, x⟩) ∧ FC W8 w.heap.size C' := ⟨_, set_inner p _ _ 5 x C1 HC1.out _ _ _ _ _, G12'⟩
  have ht17 : W7.there w.heap.size 17 5 := fun j hj => ⟨by rw [G7.c (17 + j) _ (Array.getElem?_eq_getElem (by omega))]; rfl, G7.f (17 + j)⟩
  have hrx : W7.rangeAt w6.heap.size 0 (inC x).toList := fun j v hv => by rw [Nat.zero_add]; exact I7 j v (by simpa using hv)
  have hC'22 : C'.size = 22 := by rw [HC'.out]; rfl
  have hnq : ¬ w.heap.size = w.heap.size + 1 := by omega
  have hle : w.heap.size ≤ w.heap.size := Nat.le_refl _
  have F13 : FC W8 (w.heap.size + 1) zeroFC := by
    have := ((((F7.far (i := 17) (v := .int .i64 x.proto) hnq).far (i := 18) (v := .int .u32 x.sa) hnq).far (i := 19) (v := .int .i64 x.sp) hnq).far (i := 20) (v := .int .u32 x.da) hnq).far (i := 21) (v := .int .i64 x.dp) hnq
    rw [← HW8.out]
    exact this
  have bel13 : Below w.heap.size w W8 := by
    rw [← HW8.out]
    exact setCells_below _ _ _ _ _ hle bel7
  have hst := run_store_fr C' (F13.there rfl) hC'22 (by rw [HC'.out]; exact oneFr _ _ _ _ _ _ _ _)
  have hr := range_set C'.toList (by simpa using hC'22) (F13.there rfl)
  have bel14 := setCells_below (w.heap.size + 1) C'.toList 0 _ w.heap.size (by omega) bel13
  clear hs3 hs4 hs6 q1 q2 q6 q7 q8 hl hle hnq hnd k5
  clear e17 e18 e19 e20 e21 i0 i1 i2 i3 i4 fz
  clear I7 G12' G5 G6 G7 G8 G9 G10 G11 G12 F5 F6 F7 F13 bel5 bel6 bel7 bel13 hb6 hb7 hb67 hqq r11 m3' m2 m3 c11 f11
  go_wp2_with (first | (refine alloc_inner rfl rfl rfl (.tmp 6) (.tmp 45) rfl x rfl rfl _ rfl ?_; rw [HW7.out]) | (refine load_inn rfl (.tmp 6) rfl w6.heap.size rfl x hrx ?_) | (refine store_inn rfl (.tmp 51) (.tmp 50) rfl w.heap.size 17 x rfl rfl ht17 ?_; rw [HW8.out]) | (refine load_let rfl (.tmp 1) rfl w.heap.size rfl C' G13 hC'22 ?_))
  refine bodyPost_ret (results_let rfl _ _ (w.heap.size + 1) C' rfl hr hC'22) rfl ?_
  exact ⟨C', rfl, HC', bel14⟩
end Go.Proofs.Ytdejjokgchbgnaa
