/- More of word in the document's own answer for chapter 6. -/
import Derived.Test.YtdejjokgchbgnaaM10
set_option maxRecDepth 100000
namespace Go.Proofs.Ytdejjokgchbgnaa
open Go.RowKit
attribute [local go_sem ↓] Go.wp_at_zero Go.wp_at_succ

theorem infoI : (Try.prog.info? 35).map (·.size) = some 5 := by kernel_rfl

/-- The making of a variable for what is quoted and the store into it, as one step of the walk. -/
theorem alloc_inner {ops : Array Oper} {rest : List Oper} {op op2 : Oper} {a : Act} {w : World} {Q : Exit → Act → World → Prop} (g1 : op.guard = none) (h1 : op.op = .alloc 35) (g2 : op2.guard = none) (x y : Operand) (h2 : op2.op = .store 35 x y) (z : Inn)
    (hx : (a.put op.dst (.pointer (some ⟨w.heap.size, 0, none⟩))).eval x = .pointer (some ⟨w.heap.size, 0, none⟩)) (hy : (a.put op.dst (.pointer (some ⟨w.heap.size, 0, none⟩))).eval y = inV z)
    (W5 : World) (hW : (w.alloc (.cells zeroIC 35)).setCells w.heap.size 0 (inC z).toList = W5)
    (h : wpList Try.prog ops Q rest ((a.put op.dst (.pointer (some ⟨w.heap.size, 0, none⟩))).put op2.dst undef) W5) : wpList Try.prog ops Q (op :: op2 :: rest) a w := by
  have ht : (w.alloc (.cells zeroIC 35)).there w.heap.size 0 5 := fun j hj => by
    have F := fc_new (w := w) (C := zeroIC) (t := 35) (n := w.heap.size) rfl (Below.refl _ _)
    rw [Nat.zero_add]
    exact ⟨by rw [F.c j _ (Array.getElem?_eq_getElem (show j < zeroIC.size from hj))]; rfl, F.f j⟩
  refine wpList_plain g1 fun _ hK => ?_
  have hk := hK _ _ (wpList_store_mid (P := Try.prog) g2 35 x y h2 w.heap.size 0 (inC z) hx hy ht infoI (by simp [Value.oneCell']) (by rw [hW]; exact h))
  unfold Oper.wp execOp
  simp only [h1]
  simp [go_sem]
  exact hk

/-- The load of what is quoted, as one step of the walk. -/
theorem load_inn {ops : Array Oper} {rest : List Oper} {op : Oper} {a : Act} {w : World} {Q : Exit → Act → World → Prop} (hgd : op.guard = none) (x : Operand) (ho : op.op = .load 35 x)
    (n : Nat) (hx : a.eval x = .pointer (some ⟨n, 0, none⟩)) (z : Inn) (hr : w.rangeAt n 0 (inC z).toList)
    (h : wpList Try.prog ops Q rest (a.put op.dst (inV z)) w) : wpList Try.prog ops Q (op :: rest) a w :=
  wpList_load_mid (P := Try.prog) hgd 35 x ho n 0 hx (inC z).toList _ hr Try.underlying35 rfl infoI h

/-- The store of what is quoted, as one step of the walk. -/
theorem store_inn {ops : Array Oper} {rest : List Oper} {op : Oper} {a : Act} {w : World} {Q : Exit → Act → World → Prop} (hgd : op.guard = none) (x y : Operand) (ho : op.op = .store 35 x y)
    (n o : Nat) (z : Inn) (hx : a.eval x = .pointer (some ⟨n, o, none⟩)) (hy : a.eval y = inV z) (ht : w.there n o 5)
    (h : wpList Try.prog ops Q rest (a.put op.dst undef) (w.setCells n o (inC z).toList)) : wpList Try.prog ops Q (op :: rest) a w :=
  wpList_store_mid (P := Try.prog) hgd 35 x y ho n o (inC z) hx hy ht infoI (by simp [Value.oneCell']) h

set_option maxHeartbeats 1500000 in
theorem rw_fno (p : Dg) (ao : Option Addr) (no co b off nb cb : Nat) (C : Array Value) (w : World) (HC : Hid (C = frC p (.slice ao no co) (.slice (some ⟨b, off, none⟩) nb cb) ⟨0, 0, 0, 0, 0, Inn.zero⟩)) (hA : At w b off nb cb p.body) (hl : nb ≤ 70000) (g : WGood p.body) (hk : kindW (b1 p.body 0) (b1 p.body 1) = 5) (hq : quoteO (p.body.drop 8) = none) :
    Calls Try.prog 32 #[.agg C] w fun e w' => e = .returned (.tuple #[.agg zeroFC, .int .i64 1]) ∧ Below w.heap.size w w' := by
  have hC22 : C.size = 22 := by rw [HC.out]; rfl
  have e10 : ∀ q : 10 < C.size, C[10]'q = .slice (some ⟨b, off, none⟩) nb cb := by have := HC.out; subst this; intro q; rfl
  have hb1 := below_alloc w (.cells C 37)
  have hb2 := below_alloc (w.alloc (.cells C 37)) (.cells zeroFC 37)
  have hu := wrparse_own b off nb cb p.body _ (hA.later (below_trans hb1 hb2)) (by omega) g
  have HR : Hid (0 ≤ (wdOf p.body).rest ∧ (wdOf p.body).rest < 4294967296) := w4_bd p.body hA.bytes 4
  have HQ : Hid ((wdOf p.body).rest / 65536 = w2 p.body 4) := w4_high p.body hA.bytes 4
  have HK : Hid (kindW (wdOf p.body).type (wdOf p.body).code = kindW (b1 p.body 0) (b1 p.body 1)) := (rfl : kindW (wdOf p.body).type (wdOf p.body).code = _)
  have HBD : Hid (isBytes (wdOf p.body).data) := isBytes_drop hA.bytes 8
  have HD : Hid ((wdOf p.body).data = p.body.drop 8) := (rfl : (wdOf p.body).data = _)
  have HL : Hid (p.body.length ≤ 70000) := by show _ ≤ _; rw [hA.len]; exact hl
  clear hA g
  go_enter Try.func32, Try.ntmps32
  go_wp2_with fail
  refine hu.mono ?_
  rintro e w3 ⟨a1, k1, rfl, hD3, hb3⟩
  have F3 := fc_new (n := w.heap.size + 1) (by simp) hb3
  have G3 := fc_new (n := w.heap.size) rfl (below_trans hb2 hb3)
  have hs3 := hb3.size
  simp only [World.size_alloc] at hs3 hD3
  have bel3 := below_trans (below_trans hb1 hb2) hb3
  clear hu hb1 hb2 hb3 e10
  obtain ⟨m, hm⟩ : ∃ m, wdOf p.body = m := ⟨_, rfl⟩
  rw [hm] at HR HQ HK HD HBD hD3 ⊢
  clear hm
  go_wp2_with fail
  refine (rkind_any m a1 _ k1 _).mono ?_
  rintro e w4 ⟨rfl, hb4⟩
  have hb34 := below_trans (below_alloc _ _) hb4
  have F4 := F3.later (by omega) hb34
  have G4 := G3.later (by omega) hb34
  have bel4 := below_trans bel3 hb34
  have hD4 := hD3.later hb34
  have c11 : w4.cell? ⟨w.heap.size, 11, none⟩ = some (.int .i64 0) := G4.c 11 _ (by rw [HC.out]; rfl)
  have f11 := G4.f 11
  obtain ⟨C1, hC1⟩ : ∃ C1, C1 = C.set 11 (.int .i64 (kindW m.type m.code)) (by omega) := ⟨_, rfl⟩
  have HC1 : Hid (C1 = frC p (.slice ao no co) (.slice (some ⟨b, off, none⟩) nb cb) ⟨0, kindW m.type m.code, 0, 0, 0, Inn.zero⟩) := by
    show C1 = _
    subst hC1
    have := HC.out
    subst this
    rfl
  have hC122 : C1.size = 22 := by rw [HC1.out]; rfl
  have G5 : FC (w4.setCell ⟨w.heap.size, 11, none⟩ (.int .i64 (kindW m.type m.code))) w.heap.size C1 := by rw [hC1]; exact G4.set 11 (by omega) _
  have F5 : FC (w4.setCell ⟨w.heap.size, 11, none⟩ (.int .i64 (kindW m.type m.code))) (w.heap.size + 1) zeroFC := F4.far (by omega)
  have bel5 : Below w.heap.size w (w4.setCell ⟨w.heap.size, 11, none⟩ (.int .i64 (kindW m.type m.code))) := bel4.setCell (Nat.le_refl _) _
  have m2 : w4.cell? ⟨w3.heap.size, 2, none⟩ = some (.int .u32 m.rest) := box_cell hb4 2 _ rfl
  have m3 : w4.cell? ⟨w3.heap.size, 3, none⟩ = some (.slice a1 m.data.length k1) := box_cell hb4 3 _ rfl
  have hs4 := hb4.size
  simp only [World.size_alloc] at hs4
  have q1 : ¬ (w.heap.size = w3.heap.size) := by omega
  have q2 : ¬ (w3.heap.size = w.heap.size) := by omega
  have hD5 := (hD4.store (q := ⟨w.heap.size, 11, none⟩) (by show w.heap.size < w.heap.size + 1 + 1; omega) (.int .i64 (kindW m.type m.code))).bts HBD.out
  clear hC1 F3 G3 F4 G4 bel3 bel4 hb4 hD3 hD4
  have k5 : kindW m.type m.code = 5 := by rw [HK.out]; exact hk
  have r11 : (w4.setCell ⟨w.heap.size, 11, none⟩ (.int .i64 (kindW m.type m.code))).cell? ⟨w.heap.size, 11, none⟩ = some (.int .i64 (kindW m.type m.code)) := G5.c 11 _ (by rw [HC1.out]; rfl)
  have m3' : (w4.setCell ⟨w.heap.size, 11, none⟩ (.int .i64 (kindW m.type m.code))).cell? ⟨w3.heap.size, 3, none⟩ = some (.slice a1 m.data.length k1) := by rw [World.cell?_setCell_far _ ⟨w.heap.size, 11, none⟩ ⟨w3.heap.size, 3, none⟩ _ q1]; exact m3
  obtain ⟨hnd, b3, off3, ha3, hA3⟩ := hD5.at_ne
  have hqq := rquote_no a1 b3 off3 _ k1 m.data _ ha3 hA3 (by rw [HD.out, List.length_drop]; have := HL.out; omega) (by rw [HD.out]; exact hq)
  rw [k5] at F5 bel5 r11 m3' hqq ⊢
  clear G5 HC1 hC122 HK hk hq hA3 ha3 hD5
  go_wp2_with fail
  refine hqq.mono ?_
  rintro e w6 ⟨rfl, hb6⟩
  have hb67 := below_trans hb6 (below_alloc w6 (.cells (inC Inn.zero) 35))
  have F7 := F5.later (by show w.heap.size + 1 < _; rw [World.size_setCell]; omega) hb67
  have bel7 := below_trans bel5 hb67
  clear hqq r11 m3' F5 bel5 hb6 hb67
  go_wp2_with (refine store_fr rfl (.tmp 2) (.tmp 49) rfl (w.heap.size + 1) zeroFC rfl rfl (F7.there rfl) rfl oneZ ?_)
  refine bodyPost_ret (results_fr2 rfl _ _ (w.heap.size + 1) _ rfl (range_set zeroFC.toList rfl (F7.there rfl)) rfl) rfl ?_
  exact ⟨rfl, setCells_below _ _ _ _ _ (by omega) bel7⟩

set_option maxHeartbeats 1500000 in
theorem rw_fok (p : Dg) (ao : Option Addr) (no co b off nb cb : Nat) (C : Array Value) (w : World) (HC : Hid (C = frC p (.slice ao no co) (.slice (some ⟨b, off, none⟩) nb cb) ⟨0, 0, 0, 0, 0, Inn.zero⟩)) (hA : At w b off nb cb p.body) (hl : nb ≤ 70000) (x : Inn) (g : WGood p.body) (hk : kindW (b1 p.body 0) (b1 p.body 1) = 5) (hq : quoteO (p.body.drop 8) = some x) :
    Calls Try.prog 32 #[.agg C] w fun e w' => ∃ C', e = .returned (.tuple #[.agg C', .int .i64 0]) ∧ Hid (C' = frC p (.slice ao no co) (.slice (some ⟨b, off, none⟩) nb cb) ⟨0, 5, 0, 0, 0, x⟩) ∧ Below w.heap.size w w' := by
  have hC22 : C.size = 22 := by rw [HC.out]; rfl
  have e10 : ∀ q : 10 < C.size, C[10]'q = .slice (some ⟨b, off, none⟩) nb cb := by have := HC.out; subst this; intro q; rfl
  have hb1 := below_alloc w (.cells C 37)
  have hb2 := below_alloc (w.alloc (.cells C 37)) (.cells zeroFC 37)
  have hu := wrparse_own b off nb cb p.body _ (hA.later (below_trans hb1 hb2)) (by omega) g
  have HR : Hid (0 ≤ (wdOf p.body).rest ∧ (wdOf p.body).rest < 4294967296) := w4_bd p.body hA.bytes 4
  have HQ : Hid ((wdOf p.body).rest / 65536 = w2 p.body 4) := w4_high p.body hA.bytes 4
  have HK : Hid (kindW (wdOf p.body).type (wdOf p.body).code = kindW (b1 p.body 0) (b1 p.body 1)) := (rfl : kindW (wdOf p.body).type (wdOf p.body).code = _)
  have HBD : Hid (isBytes (wdOf p.body).data) := isBytes_drop hA.bytes 8
  have HD : Hid ((wdOf p.body).data = p.body.drop 8) := (rfl : (wdOf p.body).data = _)
  have HL : Hid (p.body.length ≤ 70000) := by show _ ≤ _; rw [hA.len]; exact hl
  clear hA g
  go_enter Try.func32, Try.ntmps32
  go_wp2_with fail
  refine hu.mono ?_
  rintro e w3 ⟨a1, k1, rfl, hD3, hb3⟩
  have F3 := fc_new (n := w.heap.size + 1) (by simp) hb3
  have G3 := fc_new (n := w.heap.size) rfl (below_trans hb2 hb3)
  have hs3 := hb3.size
  simp only [World.size_alloc] at hs3 hD3
  have bel3 := below_trans (below_trans hb1 hb2) hb3
  clear hu hb1 hb2 hb3 e10
  obtain ⟨m, hm⟩ : ∃ m, wdOf p.body = m := ⟨_, rfl⟩
  rw [hm] at HR HQ HK HD HBD hD3 ⊢
  clear hm
  go_wp2_with fail
  refine (rkind_any m a1 _ k1 _).mono ?_
  rintro e w4 ⟨rfl, hb4⟩
  have hb34 := below_trans (below_alloc _ _) hb4
  have F4 := F3.later (by omega) hb34
  have G4 := G3.later (by omega) hb34
  have bel4 := below_trans bel3 hb34
  have hD4 := hD3.later hb34
  have c11 : w4.cell? ⟨w.heap.size, 11, none⟩ = some (.int .i64 0) := G4.c 11 _ (by rw [HC.out]; rfl)
  have f11 := G4.f 11
  obtain ⟨C1, hC1⟩ : ∃ C1, C1 = C.set 11 (.int .i64 (kindW m.type m.code)) (by omega) := ⟨_, rfl⟩
  have HC1 : Hid (C1 = frC p (.slice ao no co) (.slice (some ⟨b, off, none⟩) nb cb) ⟨0, kindW m.type m.code, 0, 0, 0, Inn.zero⟩) := by
    show C1 = _
    subst hC1
    have := HC.out
    subst this
    rfl
  have hC122 : C1.size = 22 := by rw [HC1.out]; rfl
  have G5 : FC (w4.setCell ⟨w.heap.size, 11, none⟩ (.int .i64 (kindW m.type m.code))) w.heap.size C1 := by rw [hC1]; exact G4.set 11 (by omega) _
  have F5 : FC (w4.setCell ⟨w.heap.size, 11, none⟩ (.int .i64 (kindW m.type m.code))) (w.heap.size + 1) zeroFC := F4.far (by omega)
  have bel5 : Below w.heap.size w (w4.setCell ⟨w.heap.size, 11, none⟩ (.int .i64 (kindW m.type m.code))) := bel4.setCell (Nat.le_refl _) _
  have m2 : w4.cell? ⟨w3.heap.size, 2, none⟩ = some (.int .u32 m.rest) := box_cell hb4 2 _ rfl
  have m3 : w4.cell? ⟨w3.heap.size, 3, none⟩ = some (.slice a1 m.data.length k1) := box_cell hb4 3 _ rfl
  have hs4 := hb4.size
  simp only [World.size_alloc] at hs4
  have q1 : ¬ (w.heap.size = w3.heap.size) := by omega
  have q2 : ¬ (w3.heap.size = w.heap.size) := by omega
  have hD5 := (hD4.store (q := ⟨w.heap.size, 11, none⟩) (by show w.heap.size < w.heap.size + 1 + 1; omega) (.int .i64 (kindW m.type m.code))).bts HBD.out
  clear hC1 F3 G3 F4 G4 bel3 bel4 hb4 hD3 hD4
  have k5 : kindW m.type m.code = 5 := by rw [HK.out]; exact hk
  have r11 : (w4.setCell ⟨w.heap.size, 11, none⟩ (.int .i64 (kindW m.type m.code))).cell? ⟨w.heap.size, 11, none⟩ = some (.int .i64 (kindW m.type m.code)) := G5.c 11 _ (by rw [HC1.out]; rfl)
  have m3' : (w4.setCell ⟨w.heap.size, 11, none⟩ (.int .i64 (kindW m.type m.code))).cell? ⟨w3.heap.size, 3, none⟩ = some (.slice a1 m.data.length k1) := by rw [World.cell?_setCell_far _ ⟨w.heap.size, 11, none⟩ ⟨w3.heap.size, 3, none⟩ _ q1]; exact m3
  obtain ⟨hnd, b3, off3, ha3, hA3⟩ := hD5.at_ne
  have ha3' : a1 = some ⟨b3, off3, none⟩ := by
    rcases ha3 with h | h
    · exact h
    · have hn : ¬ Head (p.body.drop 8) := fun q => by have := q.a; rw [← HD.out, h] at this; simp at this
      unfold quoteO at hq
      rw [if_neg (fun q => hn q.1)] at hq
      cases hq
  subst ha3'
  have hqq := rquote_ok b3 off3 _ k1 m.data x _ hA3 (by rw [HD.out, List.length_drop]; have := HL.out; omega) (by rw [HD.out]; exact hq)
  rw [k5] at F5 G5 bel5 r11 m3' hqq HC1 ⊢
  clear HK hk hq hA3 ha3 hD5
  go_wp2_with fail
  refine hqq.mono ?_
  rintro e w6 ⟨rfl, hb6⟩
  have hs6 := hb6.size
  rw [World.size_setCell] at hs6
  have hb67 := below_trans hb6 (below_alloc w6 (.cells (inC x) 35))
  have F6 := F5.later (by show w.heap.size + 1 < _; rw [World.size_setCell]; omega) hb6
  have G6 := G5.later (by show w.heap.size < _; rw [World.size_setCell]; omega) hb6
  have bel6 := below_trans bel5 hb6
  have q6 : w.heap.size < w6.heap.size := by omega
  have q7 : ¬ (w6.heap.size = w.heap.size) := by omega
  have q8 : ¬ (w.heap.size = w6.heap.size) := by omega
  have e17 : w6.cell? ⟨w.heap.size, 17, none⟩ = some (.int .i64 0) := G6.c 17 _ (by rw [HC1.out]; rfl)
  have e18 : w6.cell? ⟨w.heap.size, 18, none⟩ = some (.int .u32 0) := G6.c 18 _ (by rw [HC1.out]; rfl)
  have e19 : w6.cell? ⟨w.heap.size, 19, none⟩ = some (.int .i64 0) := G6.c 19 _ (by rw [HC1.out]; rfl)
  have e20 : w6.cell? ⟨w.heap.size, 20, none⟩ = some (.int .u32 0) := G6.c 20 _ (by rw [HC1.out]; rfl)
  have e21 : w6.cell? ⟨w.heap.size, 21, none⟩ = some (.int .i64 0) := G6.c 21 _ (by rw [HC1.out]; rfl)
  have fz := G6.f
  obtain ⟨W7, HW7⟩ : ∃ W7, Hid ((w6.alloc (.cells zeroIC 35)).setCells w6.heap.size 0 (inC x).toList = W7) := ⟨_, (rfl : _ = _)⟩
  have hb7 : Below w6.heap.size w6 W7 := by rw [← HW7.out]; exact setCells_below _ _ _ _ _ (Nat.le_refl _) (below_alloc _ _)
  have I7 : ∀ i v, (inC x)[i]? = some v → W7.cell? ⟨w6.heap.size, i, none⟩ = some v := by
    intro i v hv
    have hr := World.rangeAt_setCells_same (w6.alloc (.cells zeroIC 35)) w6.heap.size 0 (inC x).toList (fun j hj => by
      have F := fc_new (w := w6) (C := zeroIC) (t := 35) (n := w6.heap.size) rfl (Below.refl _ _)
      rw [Nat.zero_add]
      exact ⟨by rw [F.c j _ (Array.getElem?_eq_getElem (show j < zeroIC.size from hj))]; rfl, F.f j⟩)
    rw [HW7.out] at hr
    have := hr i v (by simpa using hv)
    rwa [Nat.zero_add] at this
  have i0 : W7.cell? ⟨w6.heap.size, 0, none⟩ = some (.int .i64 x.proto) := I7 0 _ rfl
  have i1 : W7.cell? ⟨w6.heap.size, 1, none⟩ = some (.int .u32 x.sa) := I7 1 _ rfl
  have i2 : W7.cell? ⟨w6.heap.size, 2, none⟩ = some (.int .i64 x.sp) := I7 2 _ rfl
  have i3 : W7.cell? ⟨w6.heap.size, 3, none⟩ = some (.int .u32 x.da) := I7 3 _ rfl
  have i4 : W7.cell? ⟨w6.heap.size, 4, none⟩ = some (.int .i64 x.dp) := I7 4 _ rfl
  have e17 := cell_later hb7 e17
  have e18 := cell_later hb7 e18
  have e19 := cell_later hb7 e19
  have e20 := cell_later hb7 e20
  have e21 := cell_later hb7 e21
  have F7 := F6.later (by omega) hb7
  have G7 := G6.later (by omega) hb7
  have fz := G7.f
  have bel7 := below_trans bel6 hb7
  have G8 := G7.set 17 (by rw [hC122]; decide) (.int .i64 x.proto)
  have G9 := G8.set 18 (by rw [Array.size_set, hC122]; decide) (.int .u32 x.sa)
  have G10 := G9.set 19 (by simp only [Array.size_set, hC122]; decide) (.int .i64 x.sp)
  have G11 := G10.set 20 (by simp only [Array.size_set, hC122]; decide) (.int .u32 x.da)
  have G12 := G11.set 21 (by simp only [Array.size_set, hC122]; decide) (.int .i64 x.dp)
  obtain ⟨W8, HW8⟩ : ∃ W8, Hid (W7.setCells w.heap.size 17 (inC x).toList = W8) := ⟨_, (rfl : _ = _)⟩
  have G12' : FC (W7.setCells w.heap.size 17 (inC x).toList) w.heap.size _ := G12
  rw [HW8.out] at G12'
  obtain ⟨C', HC', G13⟩ : ∃ C', Hid (C' = frC p (.slice ao no co) (.slice (some ⟨b, off, none⟩) nb cb) ⟨0, 5, 0, 0, 0, x⟩) ∧ FC W8 w.heap.size C' := ⟨_, set_inner p _ _ 5 x C1 HC1.out _ _ _ _ _, G12'⟩
  have ht17 : W7.there w.heap.size 17 5 := fun j hj => ⟨by rw [G7.c (17 + j) _ (Array.getElem?_eq_getElem (by omega))]; rfl, G7.f (17 + j)⟩
  have hrx : W7.rangeAt w6.heap.size 0 (inC x).toList := fun j v hv => by rw [Nat.zero_add]; exact I7 j v (by simpa using hv)
  have hC'22 : C'.size = 22 := by rw [HC'.out]; rfl
  have hnq : ¬ w.heap.size = w.heap.size + 1 := by omega
  have hle : w.heap.size ≤ w.heap.size := Nat.le_refl _
  have F13 : FC W8 (w.heap.size + 1) zeroFC := by
    have := ((((F7.far (i := 17) (v := .int .i64 x.proto) hnq).far (i := 18) (v := .int .u32 x.sa) hnq).far (i := 19) (v := .int .i64 x.sp) hnq).far (i := 20) (v := .int .u32 x.da) hnq).far (i := 21) (v := .int .i64 x.dp) hnq
    rw [← HW8.out]
    exact this
  have bel13 : Below w.heap.size w W8 := by
    rw [← HW8.out]
    exact setCells_below _ _ _ _ _ hle bel7
  have hst := run_store_fr C' (F13.there rfl) hC'22 (by rw [HC'.out]; exact oneFr _ _ _ _ _ _ _ _)
  have hr := range_set C'.toList (by simpa using hC'22) (F13.there rfl)
  have bel14 := setCells_below (w.heap.size + 1) C'.toList 0 _ w.heap.size (by omega) bel13
  clear hs3 hs4 hs6 q1 q2 q6 q7 q8 hl hle hnq hnd k5
  clear e17 e18 e19 e20 e21 i0 i1 i2 i3 i4 fz
  clear I7 G12' G5 G6 G7 G8 G9 G10 G11 G12 F5 F6 F7 F13 bel5 bel6 bel7 bel13 hb6 hb7 hb67 hqq r11 m3' m2 m3 c11 f11
  go_wp2_with (first | (refine alloc_inner rfl rfl rfl (.tmp 6) (.tmp 45) rfl x rfl rfl _ rfl ?_; rw [HW7.out]) | (refine load_inn rfl (.tmp 6) rfl w6.heap.size rfl x hrx ?_) | (refine store_inn rfl (.tmp 51) (.tmp 50) rfl w.heap.size 17 x rfl rfl ht17 ?_; rw [HW8.out]) | (refine load_let rfl (.tmp 1) rfl w.heap.size rfl C' G13 hC'22 ?_))
  refine bodyPost_ret (results_let rfl _ _ (w.heap.size + 1) C' rfl hr hC'22) rfl ?_
  exact ⟨C', rfl, HC', bel14⟩
end Go.Proofs.Ytdejjokgchbgnaa

namespace Go.Proofs.Ytdejjokgchbgnaa
open Go.RowKit
attribute [local go_sem ↓] Go.wp_at_zero Go.wp_at_succ

set_option maxHeartbeats 800000 in
theorem rread_1 (b off len cap : Nat) (l : List Int) (w : World) (hA : At w b off len cap l) (g : Good l) (hp : partB (dgOf l) = false) (hpr : (dgOf l).proto = 1) (R : Option Addr → Nat → Option Addr → Nat → Array Value) (y : Int)
    (hR : ∀ a1 k1 a2 k2, (R a1 k1 a2 k2).size = 22) (hR1 : ∀ a1 k1 a2 k2, (R a1 k1 a2 k2).all (·.oneCell') = true)
    (g1 : ∀ a1 k1 a2 k2 b' off' C W, Hid (C = frC (dgOf l) (.slice a1 (dgOf l).opts.length k1) (.slice a2 (dgOf l).body.length k2) ⟨0, 0, 0, 0, 0, Inn.zero⟩) → (a2 = some ⟨b', off', none⟩ ∨ (dgOf l).body = []) → At W b' off' (dgOf l).body.length k2 (dgOf l).body →
      Calls Try.prog 32 #[.agg C] W fun e w' => ∃ C', e = .returned (.tuple #[.agg C', .int .i64 y]) ∧ Hid (C' = R a1 k1 a2 k2) ∧ Below W.heap.size W w') :
    Calls Try.prog 13 #[.slice (some ⟨b, off, none⟩) len cap] w fun e w' =>
      ∃ a1 k1 a2 k2 C', e = .returned (.tuple #[.agg C', .int .i64 y]) ∧ Hid (C' = R a1 k1 a2 k2) ∧ Bts w' (.slice a1 (dgOf l).opts.length k1) (dgOf l).opts ∧ Bts w' (.slice a2 (dgOf l).body.length k2) (dgOf l).body ∧ Below w.heap.size w w' := by
  obtain ⟨hmf, hoff⟩ := part_no _ hp
  have hB1 : Hid (isBytes (dgOf l).opts) := isBytes_part l hA.bytes _ _
  have hB2 : Hid (isBytes (dgOf l).body) := isBytes_part l hA.bytes _ _
  have hk := dg_ok l hA.bytes
  have hl := body_len l g
  have hpa := rparse_good b off len cap l _ (hA.later (below_alloc w (.cells zeroFC 37))) g
  rcases hpd : dgOf l with ⟨tos, id, df, mf, of, ttl, pr, src, dst, opts, body⟩
  rw [hpd] at hpa hmf hoff hB1 hB2 hk hl hpr g1
  simp only at hmf hoff hpr hl g1
  subst hmf hoff
  have z17 : (pr == 17) = false := by rw [hpr]; rfl
  have z6 : (pr == 6) = false := by rw [hpr]; rfl
  have z1 : (pr == 1) = true := by rw [hpr]; rfl
  clear hpr
  clear hA g hp hpd
  go_enter Try.func13, Try.ntmps13
  go_wp2_with fail
  refine hpa.mono ?_
  rintro e w1 ⟨a1, k1, a2, k2, rfl, ho1, ho2, hb1⟩
  have F1 := fc_new (n := w.heap.size) rfl hb1
  have hs1 := hb1.size
  simp only [World.size_alloc] at hs1 ho1 ho2
  have bel1 := below_trans (below_alloc _ _) hb1
  have hbp := below_alloc w1 (.cells (ipC ⟨tos, id, df, false, 0, ttl, pr, src, dst, opts, body⟩ (.slice a1 opts.length k1) (.slice a2 body.length k2)) 29)
  obtain ⟨W5, HW5⟩ : ∃ W5, Hid (((w1.alloc (.cells (ipC ⟨tos, id, df, false, 0, ttl, pr, src, dst, opts, body⟩ (.slice a1 opts.length k1) (.slice a2 body.length k2)) 29)).alloc (.cells zeroFC 37)).setCells (w1.alloc (.cells (ipC ⟨tos, id, df, false, 0, ttl, pr, src, dst, opts, body⟩ (.slice a1 opts.length k1) (.slice a2 body.length k2)) 29)).heap.size 0 (frC ⟨tos, id, df, false, 0, ttl, pr, src, dst, opts, body⟩ (.slice a1 opts.length k1) (.slice a2 body.length k2) ⟨0, 0, 0, 0, 0, Inn.zero⟩).toList = W5) := ⟨_, (rfl : _ = _)⟩
  have F5 : FC W5 (w1.heap.size + 1) (frC ⟨tos, id, df, false, 0, ttl, pr, src, dst, opts, body⟩ (.slice a1 opts.length k1) (.slice a2 body.length k2) ⟨0, 0, 0, 0, 0, Inn.zero⟩) := fr_at _ _ (by simp) (frC ⟨tos, id, df, false, 0, ttl, pr, src, dst, opts, body⟩ (.slice a1 opts.length k1) (.slice a2 body.length k2) ⟨0, 0, 0, 0, 0, Inn.zero⟩) rfl W5 HW5.out
  have hb5 : Below (w1.alloc (.cells (ipC ⟨tos, id, df, false, 0, ttl, pr, src, dst, opts, body⟩ (.slice a1 opts.length k1) (.slice a2 body.length k2)) 29)).heap.size (w1.alloc (.cells (ipC ⟨tos, id, df, false, 0, ttl, pr, src, dst, opts, body⟩ (.slice a1 opts.length k1) (.slice a2 body.length k2)) 29)) W5 := by rw [← HW5.out]; exact setCells_below _ _ _ _ _ (Nat.le_refl _) (below_alloc _ _)
  obtain ⟨c0, c1, c2, c3, c4, c5, c6, c7, c8, c9, c10⟩ := ip_box hb5
  have hb15 := below_trans hbp hb5
  have hs5 := hb15.size
  have hs5' := hb5.size
  simp only [World.size_alloc] at hs5'
  have hBb := (ho2.bts hB2.out).later hb15
  have HO : Hid (Owns w1 (w.heap.size + 1) (.slice a1 opts.length k1) opts ∧ Owns w1 (w.heap.size + 1) (.slice a2 body.length k2) body) := ⟨ho1, ho2⟩
  have HE : Hid (Below w.heap.size w w1) := bel1
  have HF : Hid (FC w1 w.heap.size zeroFC) := F1
  have H15 : Hid (Below w1.heap.size w1 W5) := hb15
  obtain ⟨-, b', off', ha', hA'⟩ := hBb.at_ne
  clear hpa hb1 hbp ho1 ho2 F1 bel1 hb5 hBb hb15
  obtain ⟨C0, hC0⟩ : ∃ C0, frC ⟨tos, id, df, false, 0, ttl, pr, src, dst, opts, body⟩ (.slice a1 opts.length k1) (.slice a2 body.length k2) ⟨0, 0, 0, 0, 0, Inn.zero⟩ = C0 := ⟨_, rfl⟩
  have HC0 : Hid (C0 = frC ⟨tos, id, df, false, 0, ttl, pr, src, dst, opts, body⟩ (.slice a1 opts.length k1) (.slice a2 body.length k2) ⟨0, 0, 0, 0, 0, Inn.zero⟩) := hC0.symm
  have hC022 : C0.size = 22 := congrArg Array.size HC0.out
  have hu := g1 a1 k1 a2 k2 b' off' C0 W5 HC0 ha' hA'
  have G5 : FC W5 (w1.heap.size + 1) C0 := by rw [HC0.out]; exact F5
  clear ha' hA' g1 F5 hC0
  go_wp2_with (first | (refine alloc_store rfl rfl rfl (.tmp 6) (.tmp 36) rfl (frC ⟨tos, id, df, false, 0, ttl, pr, src, dst, opts, body⟩ (.slice a1 opts.length k1) (.slice a2 body.length k2) ⟨0, 0, 0, 0, 0, Inn.zero⟩) rfl rfl rfl (oneFr _ _ _ _ _ _ _ _) _ rfl ?_; rw [HW5.out]) | (refine load_let rfl (.tmp 6) rfl (w1.heap.size + 1) rfl C0 G5 hC022 ?_))
  refine hu.mono ?_
  rintro e w6 ⟨C', rfl, HC', hb6⟩
  have hb16 := below_trans H15.out hb6
  have T6 := HF.out.later (by omega) hb16
  have hC22 : C'.size = 22 := by rw [HC'.out]; exact hR _ _ _ _
  have hst := run_store_fr C' (T6.there rfl) hC22 (by rw [HC'.out]; exact hR1 _ _ _ _)
  have hr := range_set C'.toList (by simpa using hC22) (T6.there rfl)
  have bel8 := setCells_below w.heap.size C'.toList 0 _ w.heap.size (Nat.le_refl _) (below_trans HE.out hb16)
  have hO1 := (setCells_owns w.heap.size (w.heap.size + 1) _ _ (Nat.lt_succ_self _) C'.toList 0 _ (HO.out.1.later hb16)).bts hB1.out
  have hO2 := (setCells_owns w.heap.size (w.heap.size + 1) _ _ (Nat.lt_succ_self _) C'.toList 0 _ (HO.out.2.later hb16)).bts hB2.out
  clear hu G5 hb6 hb16 T6
  go_wp2
  refine bodyPost_ret (results_let rfl _ _ w.heap.size C' rfl hr hC22) rfl ?_
  exact ⟨a1, k1, a2, k2, C', rfl, HC', hO1, hO2, bel8⟩

set_option maxHeartbeats 800000 in
theorem rread_oth (b off len cap : Nat) (l : List Int) (w : World) (hA : At w b off len cap l) (g : Good l) (hp : partB (dgOf l) = false) (g1 : ¬ (dgOf l).proto = 17 ∧ ¬ (dgOf l).proto = 6 ∧ ¬ (dgOf l).proto = 1) :
    Calls Try.prog 13 #[.slice (some ⟨b, off, none⟩) len cap] w fun e w' => e = .returned (.tuple #[.agg zeroFC, .int .i64 4]) ∧ Below w.heap.size w w' := by
  obtain ⟨hmf, hoff⟩ := part_no _ hp
  have hB1 : Hid (isBytes (dgOf l).opts) := isBytes_part l hA.bytes _ _
  have hB2 : Hid (isBytes (dgOf l).body) := isBytes_part l hA.bytes _ _
  have hk := dg_ok l hA.bytes
  have hl := body_len l g
  have hpa := rparse_good b off len cap l _ (hA.later (below_alloc w (.cells zeroFC 37))) g
  rcases hpd : dgOf l with ⟨tos, id, df, mf, of, ttl, pr, src, dst, opts, body⟩
  rw [hpd] at hpa hmf hoff hB1 hB2 hk hl g1
  simp only at hmf hoff hl g1
  subst hmf hoff
  clear hA g hp hpd
  go_enter Try.func13, Try.ntmps13
  go_wp2_with fail
  refine hpa.mono ?_
  rintro e w1 ⟨a1, k1, a2, k2, rfl, ho1, ho2, hb1⟩
  have F1 := fc_new (n := w.heap.size) rfl hb1
  have hs1 := hb1.size
  simp only [World.size_alloc] at hs1 ho1 ho2
  have bel1 := below_trans (below_alloc _ _) hb1
  have hbp := below_alloc w1 (.cells (ipC ⟨tos, id, df, false, 0, ttl, pr, src, dst, opts, body⟩ (.slice a1 opts.length k1) (.slice a2 body.length k2)) 29)
  obtain ⟨W5, HW5⟩ : ∃ W5, Hid (((w1.alloc (.cells (ipC ⟨tos, id, df, false, 0, ttl, pr, src, dst, opts, body⟩ (.slice a1 opts.length k1) (.slice a2 body.length k2)) 29)).alloc (.cells zeroFC 37)).setCells (w1.alloc (.cells (ipC ⟨tos, id, df, false, 0, ttl, pr, src, dst, opts, body⟩ (.slice a1 opts.length k1) (.slice a2 body.length k2)) 29)).heap.size 0 (frC ⟨tos, id, df, false, 0, ttl, pr, src, dst, opts, body⟩ (.slice a1 opts.length k1) (.slice a2 body.length k2) ⟨0, 0, 0, 0, 0, Inn.zero⟩).toList = W5) := ⟨_, (rfl : _ = _)⟩
  have F5 : FC W5 (w1.heap.size + 1) (frC ⟨tos, id, df, false, 0, ttl, pr, src, dst, opts, body⟩ (.slice a1 opts.length k1) (.slice a2 body.length k2) ⟨0, 0, 0, 0, 0, Inn.zero⟩) := fr_at _ _ (by simp) (frC ⟨tos, id, df, false, 0, ttl, pr, src, dst, opts, body⟩ (.slice a1 opts.length k1) (.slice a2 body.length k2) ⟨0, 0, 0, 0, 0, Inn.zero⟩) rfl W5 HW5.out
  have hb5 : Below (w1.alloc (.cells (ipC ⟨tos, id, df, false, 0, ttl, pr, src, dst, opts, body⟩ (.slice a1 opts.length k1) (.slice a2 body.length k2)) 29)).heap.size (w1.alloc (.cells (ipC ⟨tos, id, df, false, 0, ttl, pr, src, dst, opts, body⟩ (.slice a1 opts.length k1) (.slice a2 body.length k2)) 29)) W5 := by rw [← HW5.out]; exact setCells_below _ _ _ _ _ (Nat.le_refl _) (below_alloc _ _)
  obtain ⟨c0, c1, c2, c3, c4, c5, c6, c7, c8, c9, c10⟩ := ip_box hb5
  have hb15 := below_trans hbp hb5
  have hs5 := hb15.size
  have hs5' := hb5.size
  simp only [World.size_alloc] at hs5'
  have hBb := (ho2.bts hB2.out).later hb15
  have HO : Hid (Owns w1 (w.heap.size + 1) (.slice a1 opts.length k1) opts ∧ Owns w1 (w.heap.size + 1) (.slice a2 body.length k2) body) := ⟨ho1, ho2⟩
  have HE : Hid (Below w.heap.size w w1) := bel1
  have HF : Hid (FC w1 w.heap.size zeroFC) := F1
  have H15 : Hid (Below w1.heap.size w1 W5) := hb15
  obtain ⟨-, b', off', ha', hA'⟩ := hBb.at_ne
  clear hpa hb1 hbp ho1 ho2 F1 bel1 hb5 hBb hb15
  have z17 : (pr == 17) = false := by simpa using g1.1
  have z6 : (pr == 6) = false := by simpa using g1.2.1
  have z1 : (pr == 1) = false := by simpa using g1.2.2
  have T5 := HF.out.later (by omega) H15.out
  have bel5 := below_trans HE.out H15.out
  clear ha' hA' g1 F5
  go_wp2_with (first | (refine alloc_store rfl rfl rfl (.tmp 6) (.tmp 36) rfl (frC ⟨tos, id, df, false, 0, ttl, pr, src, dst, opts, body⟩ (.slice a1 opts.length k1) (.slice a2 body.length k2) ⟨0, 0, 0, 0, 0, Inn.zero⟩) rfl rfl rfl (oneFr _ _ _ _ _ _ _ _) _ rfl ?_; rw [HW5.out]) | (refine store_fr rfl (.tmp 2) (.tmp 39) rfl w.heap.size zeroFC rfl rfl (T5.there rfl) rfl oneZ ?_))
  refine bodyPost_ret (results_fr2 rfl _ _ w.heap.size _ rfl (range_set zeroFC.toList rfl (T5.there rfl)) rfl) rfl ?_
  exact ⟨rfl, setCells_below _ _ _ _ _ (Nat.le_refl _) bel5⟩

end Go.Proofs.Ytdejjokgchbgnaa

namespace Go.Proofs.Ytdejjokgchbgnaa
open Go.RowKit

theorem rread_icmp_no (b off len cap : Nat) (l : List Int) (w : World) (hA : At w b off len cap l) (g : Good l) (hp : partB (dgOf l) = false) (h1 : (dgOf l).proto = 1) (h : ¬ (rsOf (dgOf l)).why = 0) :
    Calls Try.prog 13 #[.slice (some ⟨b, off, none⟩) len cap] w fun e w' => e = .returned (.tuple #[.agg zeroFC, .int .i64 (rsOf (dgOf l)).why]) ∧ Below w.heap.size w w' := by
  have h17 : ¬ (dgOf l).proto = 17 := by omega
  have h6 : ¬ (dgOf l).proto = 6 := by omega
  have hr : rsOf (dgOf l) = rsW (dgOf l) := by unfold rsOf; rw [if_neg h17, if_neg h6, if_pos h1]
  have hl := body_len l g
  refine (rread_1 b off len cap l w hA g hp h1 (fun _ _ _ _ => zeroFC) (rsOf (dgOf l)).why (fun _ _ _ _ => rfl) (fun _ _ _ _ => oneZ) ?_).mono ?_
  · intro a1 k1 a2 k2 b' off' C W HC ha hA'
    have key : Calls Try.prog 32 #[.agg C] W fun e w' => e = .returned (.tuple #[.agg zeroFC, .int .i64 (rsOf (dgOf l)).why]) ∧ Below W.heap.size W w' := by
      rw [hr] at h ⊢
      by_cases hu : parseW (dgOf l).body = 0
      · have g' := wgood_of _ hu
        have e : rsW (dgOf l) = rsK (dgOf l).body := if_pos hu
        rw [e] at h ⊢
        rcases ha with rfl | ha
        · by_cases k0 : kindW (b1 (dgOf l).body 0) (b1 (dgOf l).body 1) = 0
          · rw [show rsK (dgOf l).body = noRs 4 from if_pos k0]
            exact rw_none (dgOf l) a1 _ k1 b' off' _ k2 C W HC hA' hl g' k0
          by_cases k5 : kindW (b1 (dgOf l).body 0) (b1 (dgOf l).body 1) = 5
          · have e5 : rsK (dgOf l).body = rsF ((dgOf l).body.drop 8) := by unfold rsK; rw [if_neg k0, if_pos k5]
            rw [e5] at h ⊢
            rcases hq : quoteO ((dgOf l).body.drop 8) with _ | x
            · rw [show rsF ((dgOf l).body.drop 8) = noRs 1 by unfold rsF; rw [hq]]
              exact rw_fno (dgOf l) a1 _ k1 b' off' _ k2 C W HC hA' hl g' k5 hq
            · exact absurd (by unfold rsF; rw [hq]) h
          · exact absurd (by unfold rsK; rw [if_neg k0, if_neg k5]) h
        · have := g'.a; rw [ha] at this; simp at this
      · rw [show rsW (dgOf l) = noRs (whyI (parseW (dgOf l).body)) from if_neg hu]
        exact rw_no (dgOf l) a1 a2 _ k1 b' off' _ k2 C W HC ha hA' hl hu
    refine key.mono ?_
    rintro e w' ⟨rfl, hb⟩
    exact ⟨zeroFC, rfl, (rfl : _ = _), hb⟩
  · rintro e w' ⟨_, _, _, _, C', rfl, HC', -, -, hb⟩
    rw [HC'.out]
    exact ⟨rfl, hb⟩

theorem rread_icmp_ok (b off len cap : Nat) (l : List Int) (w : World) (hA : At w b off len cap l) (g : Good l) (hp : partB (dgOf l) = false) (h1 : (dgOf l).proto = 1) (h : (rsOf (dgOf l)).why = 0) :
    Calls Try.prog 13 #[.slice (some ⟨b, off, none⟩) len cap] w fun e w' =>
      ∃ a1 k1 a2 k2 C', e = .returned (.tuple #[.agg C', .int .i64 0]) ∧ Hid (C' = frC (dgOf l) (.slice a1 (dgOf l).opts.length k1) (.slice a2 (dgOf l).body.length k2) (rsOf (dgOf l))) ∧ Bts w' (.slice a1 (dgOf l).opts.length k1) (dgOf l).opts ∧ Bts w' (.slice a2 (dgOf l).body.length k2) (dgOf l).body ∧ Below w.heap.size w w' := by
  have h17 : ¬ (dgOf l).proto = 17 := by omega
  have h6 : ¬ (dgOf l).proto = 6 := by omega
  have hr : rsOf (dgOf l) = rsW (dgOf l) := by unfold rsOf; rw [if_neg h17, if_neg h6, if_pos h1]
  have hl := body_len l g
  refine rread_1 b off len cap l w hA g hp h1 (fun a1 k1 a2 k2 => frC (dgOf l) (.slice a1 (dgOf l).opts.length k1) (.slice a2 (dgOf l).body.length k2) (rsOf (dgOf l))) 0 (fun _ _ _ _ => rfl) (fun _ _ _ _ => oneFr _ _ _ _ _ _ _ _) ?_
  intro a1 k1 a2 k2 b' off' C W HC ha hA'
  rw [hr] at h ⊢
  by_cases hu : parseW (dgOf l).body = 0
  · have g' := wgood_of _ hu
    have e : rsW (dgOf l) = rsK (dgOf l).body := if_pos hu
    rw [e] at h ⊢
    rcases ha with rfl | ha
    · by_cases k0 : kindW (b1 (dgOf l).body 0) (b1 (dgOf l).body 1) = 0
      · rw [show rsK (dgOf l).body = noRs 4 from if_pos k0] at h
        exact absurd h (by decide)
      by_cases k5 : kindW (b1 (dgOf l).body 0) (b1 (dgOf l).body 1) = 5
      · have e5 : rsK (dgOf l).body = rsF ((dgOf l).body.drop 8) := by unfold rsK; rw [if_neg k0, if_pos k5]
        rw [e5] at h ⊢
        rcases hq : quoteO ((dgOf l).body.drop 8) with _ | x
        · rw [show rsF ((dgOf l).body.drop 8) = noRs 1 by unfold rsF; rw [hq]] at h
          exact absurd h (by decide)
        · rw [show rsF ((dgOf l).body.drop 8) = ⟨0, 5, 0, 0, 0, x⟩ by unfold rsF; rw [hq]]
          exact rw_fok (dgOf l) a1 _ k1 b' off' _ k2 C W HC hA' hl x g' k5 hq
      · rw [show rsK (dgOf l).body = ⟨0, kindW (b1 (dgOf l).body 0) (b1 (dgOf l).body 1), w2 (dgOf l).body 4, w2 (dgOf l).body 4, 0, Inn.zero⟩ by unfold rsK; rw [if_neg k0, if_neg k5]]
        exact rw_echo (dgOf l) a1 _ k1 b' off' _ k2 C W HC hA' hl g' k0 k5
    · have := g'.a; rw [ha] at this; simp at this
  · rw [show rsW (dgOf l) = noRs (whyI (parseW (dgOf l).body)) from if_neg hu] at h
    exact absurd h (whyI_pos _)

theorem rread_no (a : Option Addr) (b off len cap : Nat) (l : List Int) (w : World) (ha : a = some ⟨b, off, none⟩ ∨ l = []) (hA : At w b off len cap l) (h : ¬ (readR l).why = 0) :
    Calls Try.prog 13 #[.slice a len cap] w fun e w' => e = .returned (.tuple #[.agg zeroFC, .int .i64 (readR l).why]) ∧ Below w.heap.size w w' := by
  by_cases hE : parseE l = 0
  · have g := good_of l hE
    have hl := g.b
    rcases ha with rfl | rfl
    case inr => simp at hl
    by_cases hp : partB (dgOf l) = true
    · rw [show readR l = noRs 3 by unfold readR; rw [if_pos hE, if_pos hp]]
      exact rread_part b off len cap l w hA g hp
    · have hr : readR l = rsOf (dgOf l) := by unfold readR; rw [if_pos hE, if_neg hp]
      have hp' : partB (dgOf l) = false := by simpa using hp
      rw [hr] at h ⊢
      by_cases h17 : (dgOf l).proto = 17
      · by_cases hu : parseU (dgOf l).src (dgOf l).dst (dgOf l).body = 0
        · exact absurd (by unfold rsOf rsU; rw [if_pos h17, if_pos hu]) h
        · rw [show rsOf (dgOf l) = noRs (whyI (parseU (dgOf l).src (dgOf l).dst (dgOf l).body)) by unfold rsOf rsU; rw [if_pos h17, if_neg hu]]
          exact rread_17_no b off len cap l w hA g hp' h17 hu
      by_cases h6 : (dgOf l).proto = 6
      · by_cases hu : parseT (dgOf l).src (dgOf l).dst (dgOf l).body = 0
        · exact absurd (by unfold rsOf rsT; rw [if_neg h17, if_pos h6, if_pos hu]) h
        · rw [show rsOf (dgOf l) = noRs (whyI (parseT (dgOf l).src (dgOf l).dst (dgOf l).body)) by unfold rsOf rsT; rw [if_neg h17, if_pos h6, if_neg hu]]
          exact rread_6_no b off len cap l w hA g hp' h6 hu
      by_cases h1 : (dgOf l).proto = 1
      · exact rread_icmp_no b off len cap l w hA g hp' h1 h
      · rw [show rsOf (dgOf l) = noRs 4 by unfold rsOf; rw [if_neg h17, if_neg h6, if_neg h1]]
        exact rread_oth b off len cap l w hA g hp' ⟨h17, h6, h1⟩
  · rw [show readR l = noRs (whyI (parseE l)) from if_neg hE]
    exact rread_err a b off len cap l w ha hA hE

theorem rread_ok (b off len cap : Nat) (l : List Int) (w : World) (hA : At w b off len cap l) (h : (readR l).why = 0) :
    Calls Try.prog 13 #[.slice (some ⟨b, off, none⟩) len cap] w fun e w' =>
      ∃ a1 k1 a2 k2 C', e = .returned (.tuple #[.agg C', .int .i64 0]) ∧ Hid (C' = frC (dgOf l) (.slice a1 (dgOf l).opts.length k1) (.slice a2 (dgOf l).body.length k2) (readR l)) ∧ Bts w' (.slice a1 (dgOf l).opts.length k1) (dgOf l).opts ∧ Bts w' (.slice a2 (dgOf l).body.length k2) (dgOf l).body ∧ Below w.heap.size w w' := by
  obtain ⟨hE, hp, hr⟩ := readR_ok l h
  have g := good_of l hE
  rw [hr] at h ⊢
  by_cases h17 : (dgOf l).proto = 17
  · by_cases hu : parseU (dgOf l).src (dgOf l).dst (dgOf l).body = 0
    · rw [show rsOf (dgOf l) = ⟨0, 1, w2 (dgOf l).body 0, w2 (dgOf l).body 2, 0, Inn.zero⟩ by unfold rsOf rsU; rw [if_pos h17, if_pos hu]]
      exact rread_17_ok b off len cap l w hA g hp h17 (ugood_of _ _ _ hu)
    · exact absurd h (by unfold rsOf rsU; rw [if_pos h17, if_neg hu]; exact whyI_pos _)
  by_cases h6 : (dgOf l).proto = 6
  · by_cases hu : parseT (dgOf l).src (dgOf l).dst (dgOf l).body = 0
    · rw [show rsOf (dgOf l) = ⟨0, 2, w2 (dgOf l).body 0, w2 (dgOf l).body 2, b1 (dgOf l).body 13, Inn.zero⟩ by unfold rsOf rsT; rw [if_neg h17, if_pos h6, if_pos hu]]
      exact rread_6_ok b off len cap l w hA g hp h6 (tgood_of _ _ _ hu)
    · exact absurd h (by unfold rsOf rsT; rw [if_neg h17, if_pos h6, if_neg hu]; exact whyI_pos _)
  by_cases h1 : (dgOf l).proto = 1
  · exact rread_icmp_ok b off len cap l w hA g hp h1 h
  · exact absurd h (by unfold rsOf; rw [if_neg h17, if_neg h6, if_neg h1]; decide)
end Go.Proofs.Ytdejjokgchbgnaa
