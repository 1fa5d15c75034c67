/- between: its walk. -/
import Derived.Test.YtlgkndebhafliaaStrBtw
set_option maxRecDepth 100000
namespace Go.Proofs.Ytlgkndebhafliaa
open Go.RowKit
attribute [local go_sem ↓] Go.wp_at_zero Go.wp_at_succ

set_option maxHeartbeats 8000000 in
theorem between_ok (w : World) (v1 v2 v3 : Value) (vs1 vs2 : List Value) (hs : List (List Int)) (R : List Tr) (H1 : Lsx w v1 vs1 hs) (H2 : Lsx w v2 vs2 (R.map Tr.b)) (H3 : Win w 1 v3 R.length (R.map fun x => Value.bool x.su)) (hl1 : hs.length ≤ 1000000) (hl2 : R.length ≤ 1000000) (hB : Btw hs R) :
    Calls Try.prog 31 #[v1, v2, v3] w fun e w' => e = .returned (.bool true) ∧ Below w.heap.size w w' := by
  obtain ⟨i0, hi, hz0, hz1, hz2⟩ := info_parts infoBool
  have K1 : Hid (Lsx w v1 vs1 hs) := H1
  have K2 : Hid (Lsx w v2 vs2 (R.map Tr.b)) := H2
  have K3 : Hid (Win w 1 v3 R.length (R.map fun x => Value.bool x.su)) := H3
  have KB : Hid (Btw hs R) := hB
  obtain ⟨a1, c1, rfl⟩ := win_shape H1.win
  obtain ⟨a2, c2, rfl⟩ := win_shape H2.win
  obtain ⟨a3, c3, rfl⟩ := win_shape H3
  rw [List.length_map] at K2 ⊢
  clear H1 H2 H3 hB
  have hl1I : (hs.length : Int) ≤ 1000000 := by omega
  go_enter Try.func31, Try.ntmps31
  have m0 : Blk (w.alloc (.cells (madeCells #[Value.bool false] (hs.length + 1)) 4)) w.heap.size ((List.replicate (hs.length + 1) false).map Value.bool) := made_blk w (hs.length + 1)
  have n0 := bool_cell m0 0 (by simp)
  have f0 := m0.frozen 0
  clear m0
  have S0 : Hid (Blk (w.alloc (.cells ((madeCells #[Value.bool false] (hs.length + 1)).setIfInBounds 0 (.bool true)) 4)) w.heap.size (((List.replicate (hs.length + 1) false).set 0 true).map Value.bool)) := by
    have := blk_new w ((madeCells #[Value.bool false] (hs.length + 1)).setIfInBounds 0 (.bool true)) 4
    rwa [Array.toList_setIfInBounds, toList_madeCells_one, ← List.map_replicate (f := Value.bool), ← List.map_set] at this
  go_wp2_with (at_make; refine wpList_make_row _ rfl _ _ 60 rfl 4 i0 (.bool false) Try.underlying60 hi hz0 hz1 rfl .i64 .i64 (hs.length + 1) rfl rfl (by rw [hz2]; omega) (by omega) ?_)
  go_loopg [7, 8] R.length (fun gk v i wr => ∃ (j g : Nat) (C : List Bool), j + gk = R.length ∧ i = .int .i64 j ∧ v = .slice (some ⟨g, 0, none⟩) (hs.length + 1) (hs.length + 1) ∧ C.length = hs.length + 1 ∧ Blk wr g (C.map Value.bool) ∧ w.heap.size ≤ g ∧ Can hs R j C ∧ Below w.heap.size w wr)
  case atStart => exact ⟨0, w.heap.size, _, by omega, rfl, rfl, by simp, S0.out, Nat.le_refl _, can_start hs R _ (by simp), below_alloc _ _⟩
  case round =>
    obtain ⟨w0, rfl⟩ : ∃ w0, w0 = wr := ⟨wr, rfl⟩
    obtain ⟨j, g, C, hj, rfl, rfl, hCl, hC, hg, hcan, hBel⟩ := hrel
    by_cases hlt : j < R.length
    case neg =>
      have hge : ¬ (j : Int) < (R.length : Int) := by omega
      have hfin : C.getD hs.length false = true := hcan hs.length (Nat.le_refl _) (by rw [List.take_length, List.take_of_length_le (by omega)]; exact KB.out)
      have r1 := bool_cell hC hs.length (by omega)
      rw [hfin] at r1
      clear hC hcan hfin
      go_wp2
      go_ret
      exact ⟨rfl, hBel⟩
    have hltI : (j : Int) < (R.length : Int) := by omega
    obtain ⟨x, hx⟩ : ∃ x, R[j]? = some x := ⟨R[j], List.getElem?_eq_getElem hlt⟩
    have HX : Hid (R[j]? = some x) := hx
    have hxb : Hid ((R.map Tr.b).getD j [] = x.b) := by show _ = _; simp [List.getD, hx]
    have hxs : Hid ((R.map fun y => Value.bool y.su).getD j undef = .bool x.su) := by show _ = _; simp [List.getD, hx]
    clear hx
    have HCan : Hid (Can hs R j C) := hcan
    have hG : Hid (w.heap.size ≤ w0.heap.size) := hBel.size
    have hglt := hC.lt
    have hgne : Hid (g ≠ w0.heap.size) := Nat.ne_of_lt hglt
    have M0 : Hid (Blk (w0.alloc (.cells (madeCells #[Value.bool false] (hs.length + 1)) 4)) w0.heap.size ((List.replicate (hs.length + 1) false).map Value.bool)) := made_blk w0 (hs.length + 1)
    have C0 : Hid (Blk (w0.alloc (.cells (madeCells #[Value.bool false] (hs.length + 1)) 4)) g (C.map Value.bool)) := hC.later (below_alloc w0 _)
    have B0 : Hid (Below w.heap.size w (w0.alloc (.cells (madeCells #[Value.bool false] (hs.length + 1)) 4))) := hBel.trans ((below_alloc w0 _).mono hBel.size)
    have HCl : Hid (C.length = hs.length + 1) := hCl
    clear hcan hC hCl hBel hglt
    go_wp2_with (at_make; refine wpList_make_row _ rfl _ _ 60 rfl 4 i0 (.bool false) Try.underlying60 hi hz0 hz1 rfl .i64 .i64 (hs.length + 1) rfl rfl (by rw [hz2]; omega) (by omega) ?_)
    go_loopg [10] (hs.length + 1) (fun gk i wr2 => ∃ (k : Nat) (N : List Bool), k + gk = hs.length + 1 ∧ i = .int .i64 k ∧ N.length = hs.length + 1 ∧ Blk wr2 w0.heap.size (N.map Value.bool) ∧ Blk wr2 g (C.map Value.bool) ∧ Nxb hs x C N k ∧ Below w.heap.size w wr2)
    case atStart => exact ⟨0, _, by omega, rfl, by simp, M0.out, C0.out, Nxb.zero _ _ _ _, B0.out⟩
    case round =>
      obtain ⟨k, N, hk, rfl, hNl, hM, hC, hNx0, hBel⟩ := hrel
      have hNx : Hid (Nxb hs x C N k) := hNx0
      clear hNx0
      by_cases hkle : k ≤ hs.length
      case neg =>
        have hkI : ¬ (k : Int) ≤ (hs.length : Int) := by omega
        have HY : Hid (Can hs R (j + 1) N) := can_step HCan.out HX.out (fun m hm => hNx.out.a m (by omega) hm) (fun m hm => hNx.out.b m (by omega) hm)
        go_wp2
        go_roundg (R.length - (j + 1))
        case rel => exact ⟨j + 1, w0.heap.size, N, by omega, by go_num, rfl, hNl, hM, hG.out, HY.out, hBel⟩
        case measure => omega
      have hkI : (k : Int) ≤ (hs.length : Int) := by omega
      have r0 := bool_cell hC k (by rw [HCl.out]; omega)
      by_cases hck : C.getD k false = true
      case neg =>
        have hck' : C.getD k false = false := by simpa using hck
        rw [hck'] at r0
        have HY : Hid (Nxb hs x C N (k + 1)) := hNx.out.no hck'
        have HM : Hid (Blk wr w0.heap.size (N.map Value.bool)) := hM
        have HC : Hid (Blk wr g (C.map Value.bool)) := hC
        clear hM hC hck hck'
        go_wp2
        go_roundg (hs.length + 1 - (k + 1))
        case rel => exact ⟨k + 1, N, by omega, by go_num, hNl, HM.out, HC.out, HY.out, hBel⟩
        case measure => omega
      rw [hck] at r0
      obtain ⟨B3, O3, d3, e3, s1, s2, s3⟩ := win_read (K3.out.later hBel) (by omega)
      injection e3 with e3a _ e3c
      subst e3a; subst e3c
      unfold maxLen at s2
      have u0 := s3 j hlt
      rw [hxs.out] at u0
      clear s3
      cases hsu : x.su with
      | true =>
        rw [hsu] at u0
        obtain ⟨N1, hN1⟩ : ∃ N1, N1 = N := ⟨_, rfl⟩
        obtain ⟨W1, hW1⟩ : ∃ W1, W1 = wr := ⟨_, rfl⟩
        have hN1l : Hid (N1.length = hs.length + 1) := by show _ = _; rw [hN1]; exact hNl
        have hM1 : Hid (Blk W1 w0.heap.size (N1.map Value.bool)) := by show Blk _ _ _; rw [hN1, hW1]; exact hM
        have hC1 : Hid (Blk W1 g (C.map Value.bool)) := by show Blk _ _ _; rw [hW1]; exact hC
        have hBel1 : Hid (Below w.heap.size w W1) := by show Below _ _ _; rw [hW1]; exact hBel
        have hUp : Hid (∀ m, N.getD m false = true → N1.getD m false = true) := by show ∀ m, _; rw [hN1]; exact fun m h => h
        have hOne : Hid (x.su = false → N1.getD k false = true) := fun h => by rw [hsu] at h; cases h
        clear hM hC hBel hN1 hck hsu
        rw [← hW1] at r0 u0 ⊢
        clear hW1
        go_wp2_with fail
        by_cases hkl : k < hs.length
        case neg =>
          have hd : decide ((k : Int) < (hs.length : Int)) = false := by simpa using hkl
          have hdI : ¬ (k : Int) < (hs.length : Int) := by omega
          have HY : Hid (Nxb hs x C N1 (k + 1)) := hNx.out.yes hUp.out hOne.out (fun h => absurd h hkl)
          go_quiet (fail)
          rename_i nq
          go_wp2
          go_roundg (hs.length + 1 - (k + 1))
          case rel => exact ⟨k + 1, N1, by omega, by go_num, hN1l.out, (hM1.out.later (below_drewN W1 nq)), (hC1.out.later (below_drewN W1 nq)), HY.out, hBel1.out.trans ((below_drewN W1 nq).mono hBel1.out.size)⟩
          case measure => omega
        have hklI : (k : Int) < (hs.length : Int) := by omega
        obtain ⟨B1, O1, d1, e1, g1, g2, g3⟩ := win_read (K1.out.later hBel1.out).win (by omega)
        obtain ⟨B2, O2, d2, e2, f1, f2, f3⟩ := win_read (K2.out.later hBel1.out).win (by rw [List.length_map]; omega)
        rw [List.length_map] at e2 f1
        injection e1 with e1a _ e1c
        injection e2 with e2a _ e2c
        subst e1a; subst e1c; subst e2a; subst e2c
        unfold maxLen at g2 f2
        have q1 := g3 k hkl
        have q2 := f3 j (by rw [List.length_map]; exact hlt)
        have hb1 := (K1.out.later hBel1.out).bts k hkl
        have hb2 := (K2.out.later hBel1.out).bts j (by rw [List.length_map]; exact hlt)
        rw [hxb.out] at hb2
        have HS : ∀ n, Calls Try.prog 15 #[vs1.getD k undef, vs2.getD j undef] (W1.drewN n) fun e w' => e = .returned (.bool (sameB (hs.getD k []) x.b)) ∧ ∃ nq', w' = (W1.drewN n).drewN nq' := fun n => same_one (W1.drewN n) _ _ _ _ (hb1.later (below_drewN W1 n)) (hb2.later (below_drewN W1 n))
        obtain ⟨z1, z2, hz, _⟩ := bts_src hb1
        obtain ⟨y1, y2, hy, _⟩ := bts_src hb2
        rw [hz] at q1 HS
        rw [hy] at q2 HS
        have hd : decide ((k : Int) < (hs.length : Int)) = true := by simpa using hkl
        clear hz hy hb1 hb2 g3 f3 f1 g1
        have hsmb : Hid (∀ b : Bool, sameB (hs.getD k []) x.b = b → (b = true ↔ hs.getD k [] = x.b)) := by intro b hb; subst hb; unfold sameB; simp
        generalize (hs.getD k []).length = L1 at *
        generalize x.b.length = L2 at *
        generalize hsm : sameB (hs.getD k []) x.b = sm at *
        have HSM : Hid (sm = true ↔ hs.getD k [] = x.b) := hsmb.out sm rfl
        clear hsm hsmb
        go_quiet ((go_at_call 15; refine Calls.quiet_of (HS _)))
        rename_i nq
        clear HS q1 q2
        have hB2 := below_drewN W1 nq
        have hM2 := hM1.out.later hB2
        have hC2 := hC1.out.later hB2
        have hBel2 := hBel1.out.trans (hB2.mono hBel1.out.size)
        generalize W1.drewN nq = W2 at *
        clear hB2
        cases sm with
        | false =>
          have HY : Hid (Nxb hs x C N1 (k + 1)) := hNx.out.yes hUp.out hOne.out (fun _ h => by have := HSM.out.2 h; cases this)
          go_wp2
          go_roundg (hs.length + 1 - (k + 1))
          case rel => exact ⟨k + 1, N1, by omega, by go_num, hN1l.out, hM2, hC2, HY.out, hBel2⟩
          case measure => omega
        | true =>
          have HY : Hid (Nxb hs x C (N1.set (k + 1) true) (k + 1)) := hNx.out.yes (fun m hm => set_up _ _ _ (hUp.out m hm)) (fun h => set_up _ _ _ (hOne.out h)) (fun _ _ => by rw [set_getD _ _ _ (by rw [hN1l.out]; omega), if_pos rfl])
          have r1 := bool_cell hM2 (k + 1) (by rw [hN1l.out]; omega)
          have r2 := hM2.frozen (k + 1)
          have HM3 : Hid (Blk (W2.setCell ⟨w0.heap.size, k + 1, none⟩ (.bool true)) w0.heap.size ((N1.set (k + 1) true).map Value.bool)) := bool_set hM2 (k + 1) true
          have HC3 : Hid (Blk (W2.setCell ⟨w0.heap.size, k + 1, none⟩ (.bool true)) g (C.map Value.bool)) := hC2.same (heap_setCell_other _ _ _ _ hgne.out)
          have HB3 : Hid (Below w.heap.size w (W2.setCell ⟨w0.heap.size, k + 1, none⟩ (.bool true))) := hBel2.setCell hG.out _
          generalize N1.getD (k + 1) false = old at *
          clear hM2 hC2 hBel2
          go_wp2
          go_roundg (hs.length + 1 - (k + 1))
          case rel => exact ⟨k + 1, N1.set (k + 1) true, by omega, by go_num, by rw [List.length_set]; exact hN1l.out, HM3.out, HC3.out, HY.out, HB3.out⟩
          case measure => omega
      | false =>
        rw [hsu] at u0
        have y1 := bool_cell hM k (by rw [hNl]; omega)
        have y2 := hM.frozen k
        obtain ⟨N1, hN1⟩ : ∃ N1, N1 = N.set k true := ⟨_, rfl⟩
        obtain ⟨W1, hW1⟩ : ∃ W1, W1 = wr.setCell ⟨w0.heap.size, k, none⟩ (.bool true) := ⟨_, rfl⟩
        have hN1l : Hid (N1.length = hs.length + 1) := by show _ = _; rw [hN1, List.length_set]; exact hNl
        have hM1 : Hid (Blk W1 w0.heap.size (N1.map Value.bool)) := by show Blk _ _ _; rw [hN1, hW1]; exact bool_set hM k true
        have hC1 : Hid (Blk W1 g (C.map Value.bool)) := by show Blk _ _ _; rw [hW1]; exact hC.same (heap_setCell_other _ _ _ _ hgne.out)
        have hBel1 : Hid (Below w.heap.size w W1) := by show Below _ _ _; rw [hW1]; exact hBel.setCell hG.out _
        have hUp : Hid (∀ m, N.getD m false = true → N1.getD m false = true) := by show ∀ m, _; rw [hN1]; exact fun m h => set_up _ _ _ h
        have hOne : Hid (x.su = false → N1.getD k false = true) := fun _ => by rw [hN1, set_getD _ _ _ (by rw [hNl]; omega), if_pos rfl]
        have hWx : Hid (W1 = wr.setCell ⟨w0.heap.size, k, none⟩ (.bool true)) := hW1
        generalize N.getD k false = old0 at *
        clear hM hC hBel hN1 hck hsu hW1
        go_wp2_with fail
        rw [← hWx.out]
        clear r0 u0 y1 y2
        by_cases hkl : k < hs.length
        case neg =>
          have hd : decide ((k : Int) < (hs.length : Int)) = false := by simpa using hkl
          have hdI : ¬ (k : Int) < (hs.length : Int) := by omega
          have HY : Hid (Nxb hs x C N1 (k + 1)) := hNx.out.yes hUp.out hOne.out (fun h => absurd h hkl)
          go_quiet (fail)
          rename_i nq
          go_wp2
          go_roundg (hs.length + 1 - (k + 1))
          case rel => exact ⟨k + 1, N1, by omega, by go_num, hN1l.out, (hM1.out.later (below_drewN W1 nq)), (hC1.out.later (below_drewN W1 nq)), HY.out, hBel1.out.trans ((below_drewN W1 nq).mono hBel1.out.size)⟩
          case measure => omega
        have hklI : (k : Int) < (hs.length : Int) := by omega
        obtain ⟨B1, O1, d1, e1, g1, g2, g3⟩ := win_read (K1.out.later hBel1.out).win (by omega)
        obtain ⟨B2, O2, d2, e2, f1, f2, f3⟩ := win_read (K2.out.later hBel1.out).win (by rw [List.length_map]; omega)
        rw [List.length_map] at e2 f1
        injection e1 with e1a _ e1c
        injection e2 with e2a _ e2c
        subst e1a; subst e1c; subst e2a; subst e2c
        unfold maxLen at g2 f2
        have q1 := g3 k hkl
        have q2 := f3 j (by rw [List.length_map]; exact hlt)
        have hb1 := (K1.out.later hBel1.out).bts k hkl
        have hb2 := (K2.out.later hBel1.out).bts j (by rw [List.length_map]; exact hlt)
        rw [hxb.out] at hb2
        have HS : ∀ n, Calls Try.prog 15 #[vs1.getD k undef, vs2.getD j undef] (W1.drewN n) fun e w' => e = .returned (.bool (sameB (hs.getD k []) x.b)) ∧ ∃ nq', w' = (W1.drewN n).drewN nq' := fun n => same_one (W1.drewN n) _ _ _ _ (hb1.later (below_drewN W1 n)) (hb2.later (below_drewN W1 n))
        obtain ⟨z1, z2, hz, _⟩ := bts_src hb1
        obtain ⟨y1, y2, hy, _⟩ := bts_src hb2
        rw [hz] at q1 HS
        rw [hy] at q2 HS
        have hd : decide ((k : Int) < (hs.length : Int)) = true := by simpa using hkl
        clear hz hy hb1 hb2 g3 f3 f1 g1
        have hsmb : Hid (∀ b : Bool, sameB (hs.getD k []) x.b = b → (b = true ↔ hs.getD k [] = x.b)) := by intro b hb; subst hb; unfold sameB; simp
        generalize (hs.getD k []).length = L1 at *
        generalize x.b.length = L2 at *
        generalize hsm : sameB (hs.getD k []) x.b = sm at *
        have HSM : Hid (sm = true ↔ hs.getD k [] = x.b) := hsmb.out sm rfl
        clear hsm hsmb
        go_quiet ((go_at_call 15; refine Calls.quiet_of (HS _)))
        rename_i nq
        clear HS q1 q2
        have hB2 := below_drewN W1 nq
        have hM2 := hM1.out.later hB2
        have hC2 := hC1.out.later hB2
        have hBel2 := hBel1.out.trans (hB2.mono hBel1.out.size)
        generalize W1.drewN nq = W2 at *
        clear hB2
        cases sm with
        | false =>
          have HY : Hid (Nxb hs x C N1 (k + 1)) := hNx.out.yes hUp.out hOne.out (fun _ h => by have := HSM.out.2 h; cases this)
          go_wp2
          go_roundg (hs.length + 1 - (k + 1))
          case rel => exact ⟨k + 1, N1, by omega, by go_num, hN1l.out, hM2, hC2, HY.out, hBel2⟩
          case measure => omega
        | true =>
          have HY : Hid (Nxb hs x C (N1.set (k + 1) true) (k + 1)) := hNx.out.yes (fun m hm => set_up _ _ _ (hUp.out m hm)) (fun h => set_up _ _ _ (hOne.out h)) (fun _ _ => by rw [set_getD _ _ _ (by rw [hN1l.out]; omega), if_pos rfl])
          have r1 := bool_cell hM2 (k + 1) (by rw [hN1l.out]; omega)
          have r2 := hM2.frozen (k + 1)
          have HM3 : Hid (Blk (W2.setCell ⟨w0.heap.size, k + 1, none⟩ (.bool true)) w0.heap.size ((N1.set (k + 1) true).map Value.bool)) := bool_set hM2 (k + 1) true
          have HC3 : Hid (Blk (W2.setCell ⟨w0.heap.size, k + 1, none⟩ (.bool true)) g (C.map Value.bool)) := hC2.same (heap_setCell_other _ _ _ _ hgne.out)
          have HB3 : Hid (Below w.heap.size w (W2.setCell ⟨w0.heap.size, k + 1, none⟩ (.bool true))) := hBel2.setCell hG.out _
          generalize N1.getD (k + 1) false = old at *
          clear hM2 hC2 hBel2
          go_wp2
          go_roundg (hs.length + 1 - (k + 1))
          case rel => exact ⟨k + 1, N1.set (k + 1) true, by omega, by go_num, by rw [List.length_set]; exact hN1l.out, HM3.out, HC3.out, HY.out, HB3.out⟩
          case measure => omega

end Go.Proofs.Ytlgkndebhafliaa
