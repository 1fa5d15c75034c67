/- The contract of Read in the document's own answer: segments of TCP. -/
import Derived.Test.YtdejjokgchbgnaaFrameRread
import Derived.Test.YtdejjokgchbgnaaTcpRparse2
set_option maxRecDepth 100000
namespace Go.Proofs.Ytdejjokgchbgnaa
open Go.RowKit
attribute [local go_sem ↓] Go.wp_at_zero Go.wp_at_succ

set_option maxHeartbeats 1000000 in
theorem rread_6_ok (b off len cap : Nat) (l : List Int) (w : World) (hA : At w b off len cap l) (g : Good l) (hp : partB (dgOf l) = false) (hpr : (dgOf l).proto = 6) (g1 : TGood (dgOf l).src (dgOf l).dst (dgOf l).body) :
    Calls Try.prog 13 #[.slice (some ⟨b, off, none⟩) len cap] w fun e w' =>
      ∃ a1 k1 a2 k2 C', e = .returned (.tuple #[.agg C', .int .i64 0]) ∧ Hid (C' = frC (dgOf l) (.slice a1 (dgOf l).opts.length k1) (.slice a2 (dgOf l).body.length k2) ⟨0, 2, w2 (dgOf l).body 0, w2 (dgOf l).body 2, b1 (dgOf l).body 13, Inn.zero⟩) ∧ Bts w' (.slice a1 (dgOf l).opts.length k1) (dgOf l).opts ∧ Bts w' (.slice a2 (dgOf l).body.length k2) (dgOf l).body ∧ Below w.heap.size w w' := by
  obtain ⟨hmf, hoff⟩ := part_no _ hp
  have hB1 : Hid (isBytes (dgOf l).opts) := isBytes_part l hA.bytes _ _
  have hB2 : Hid (isBytes (dgOf l).body) := isBytes_part l hA.bytes _ _
  have hk := dg_ok l hA.bytes
  have hl := body_len l g
  have hpa := rparse_good b off len cap l _ (hA.later (below_alloc w (.cells zeroFC 37))) g
  rcases hpd : dgOf l with ⟨tos, id, df, mf, of, ttl, pr, src, dst, opts, body⟩
  rw [hpd] at hpa hmf hoff hB1 hB2 hk hl hpr g1
  simp only at hmf hoff hpr hl g1
  subst hmf hoff
  have z17 : (pr == 17) = false := by rw [hpr]; rfl
  have z6 : (pr == 6) = true := by rw [hpr]; rfl
  clear hpr
  clear hA g hp hpd
  go_enter Try.func13, Try.ntmps13
  go_wp2_with fail
  refine hpa.mono ?_
  rintro e w1 ⟨a1, k1, a2, k2, rfl, ho1, ho2, hb1⟩
  have F1 := fc_new (n := w.heap.size) rfl hb1
  have hs1 := hb1.size
  simp only [World.size_alloc] at hs1 ho1 ho2
  have bel1 := below_trans (below_alloc _ _) hb1
  have hbp := below_alloc w1 (.cells (ipC ⟨tos, id, df, false, 0, ttl, pr, src, dst, opts, body⟩ (.slice a1 opts.length k1) (.slice a2 body.length k2)) 29)
  obtain ⟨W5, HW5⟩ : ∃ W5, Hid (((w1.alloc (.cells (ipC ⟨tos, id, df, false, 0, ttl, pr, src, dst, opts, body⟩ (.slice a1 opts.length k1) (.slice a2 body.length k2)) 29)).alloc (.cells zeroFC 37)).setCells (w1.alloc (.cells (ipC ⟨tos, id, df, false, 0, ttl, pr, src, dst, opts, body⟩ (.slice a1 opts.length k1) (.slice a2 body.length k2)) 29)).heap.size 0 (frC ⟨tos, id, df, false, 0, ttl, pr, src, dst, opts, body⟩ (.slice a1 opts.length k1) (.slice a2 body.length k2) ⟨0, 0, 0, 0, 0, Inn.zero⟩).toList = W5) := ⟨_, (rfl : _ = _)⟩
  have F5 : FC W5 (w1.heap.size + 1) (frC ⟨tos, id, df, false, 0, ttl, pr, src, dst, opts, body⟩ (.slice a1 opts.length k1) (.slice a2 body.length k2) ⟨0, 0, 0, 0, 0, Inn.zero⟩) := fr_at _ _ (by simp) (frC ⟨tos, id, df, false, 0, ttl, pr, src, dst, opts, body⟩ (.slice a1 opts.length k1) (.slice a2 body.length k2) ⟨0, 0, 0, 0, 0, Inn.zero⟩) rfl W5 HW5.out
  have hb5 : Below (w1.alloc (.cells (ipC ⟨tos, id, df, false, 0, ttl, pr, src, dst, opts, body⟩ (.slice a1 opts.length k1) (.slice a2 body.length k2)) 29)).heap.size (w1.alloc (.cells (ipC ⟨tos, id, df, false, 0, ttl, pr, src, dst, opts, body⟩ (.slice a1 opts.length k1) (.slice a2 body.length k2)) 29)) W5 := by rw [← HW5.out]; exact setCells_below _ _ _ _ _ (Nat.le_refl _) (below_alloc _ _)
  obtain ⟨c0, c1, c2, c3, c4, c5, c6, c7, c8, c9, c10⟩ := ip_box hb5
  have hb15 := below_trans hbp hb5
  have hs5 := hb15.size
  have hs5' := hb5.size
  simp only [World.size_alloc] at hs5'
  have hBb := (ho2.bts hB2.out).later hb15
  have HO : Hid (Owns w1 (w.heap.size + 1) (.slice a1 opts.length k1) opts ∧ Owns w1 (w.heap.size + 1) (.slice a2 body.length k2) body) := ⟨ho1, ho2⟩
  have HE : Hid (Below w.heap.size w w1) := bel1
  have HF : Hid (FC w1 w.heap.size zeroFC) := F1
  have H15 : Hid (Below w1.heap.size w1 W5) := hb15
  obtain ⟨-, b', off', ha', hA'⟩ := hBb.at_ne
  clear hpa hb1 hbp ho1 ho2 F1 bel1 hb5 hBb hb15
  have hs55 : w1.heap.size + 1 < W5.heap.size := World.block_lt_of_cell? W5 _ (F5.c 0 _ rfl)
  have ha'' : a2 = some ⟨b', off', none⟩ := by
    rcases ha' with h | h
    · exact h
    · have := g1.a; rw [h] at this; simp at this
  have hu := trparse_ok src dst b' off' body.length k2 body W5 hk.src0 hk.src1 hk.dst0 hk.dst1 hA' hl g1
  rw [← ha''] at hu
  clear ha' ha'' hA' g1
  go_wp2_with (refine alloc_store rfl rfl rfl (.tmp 6) (.tmp 36) rfl (frC ⟨tos, id, df, false, 0, ttl, pr, src, dst, opts, body⟩ (.slice a1 opts.length k1) (.slice a2 body.length k2) ⟨0, 0, 0, 0, 0, Inn.zero⟩) rfl rfl rfl (oneFr _ _ _ _ _ _ _ _) _ rfl ?_; rw [HW5.out])
  refine hu.mono ?_
  rintro e w6 ⟨a3, k3, a4, k4, rfl, -, -, hb6⟩
  have hs6 := hb6.size
  have F6 := F5.later (by omega) hb6
  have fz := F6.f
  have e11 : w6.cell? ⟨w1.heap.size + 1, 11, none⟩ = some (.int .i64 0) := F6.c 11 _ rfl
  have e13 : w6.cell? ⟨w1.heap.size + 1, 13, none⟩ = some (.int .i64 0) := F6.c 13 _ rfl
  have e15 : w6.cell? ⟨w1.heap.size + 1, 15, none⟩ = some (.int .i64 0) := F6.c 15 _ rfl
  have e16 : w6.cell? ⟨w1.heap.size + 1, 16, none⟩ = some (.int .i64 0) := F6.c 16 _ rfl
  have hb17 := below_trans H15.out hb6
  have q1 : w1.heap.size + 1 < w6.heap.size := by omega
  have q2 : ¬ (w1.heap.size + 1 = w6.heap.size) := by omega
  have T7 := HF.out.later (by omega) hb17
  have hnq : ¬ w1.heap.size + 1 = w.heap.size := by omega
  have hle : w.heap.size ≤ w1.heap.size + 1 := by omega
  have hle1 : w1.heap.size ≤ w1.heap.size + 1 := by omega
  have bel7 := below_trans HE.out hb17
  have S0 := F6.set 11 (by first | (show 11 < 22; decide) | (simp only [Array.size_set]; decide)) (.int .i64 2)
  have S1 := S0.set 13 (by first | (show 13 < 22; decide) | (simp only [Array.size_set]; decide)) (.int .i64 (pcOf body).src)
  have S2 := S1.set 15 (by first | (show 15 < 22; decide) | (simp only [Array.size_set]; decide)) (.int .i64 (pcOf body).dst)
  have S3 := S2.set 16 (by first | (show 16 < 22; decide) | (simp only [Array.size_set]; decide)) (.int .i64 (pcOf body).flags)
  have SZ := S3.later (by simp only [World.size_setCell]; omega) (below_alloc _ (.cells (pcC (pcOf body) (.slice a3 (pcOf body).opts.length k3) (.slice a4 (pcOf body).data.length k4)) 69))
  have T8 := T7.far (m := w1.heap.size + 1) (i := 11) (v := .int .i64 2) hnq
  have T9 := T8.far (m := w1.heap.size + 1) (i := 13) (v := .int .i64 (pcOf body).src) hnq
  have T10 := T9.far (m := w1.heap.size + 1) (i := 15) (v := .int .i64 (pcOf body).dst) hnq
  have T11 := T10.far (m := w1.heap.size + 1) (i := 16) (v := .int .i64 (pcOf body).flags) hnq
  have TZ := T11.later (by simp only [World.size_setCell]; omega) (below_alloc _ (.cells (pcC (pcOf body) (.slice a3 (pcOf body).opts.length k3) (.slice a4 (pcOf body).data.length k4)) 69))
  have bb0 := bel7.setCell (p := ⟨w1.heap.size + 1, 11, none⟩) hle (.int .i64 2)
  have bb1 := bb0.setCell (p := ⟨w1.heap.size + 1, 13, none⟩) hle (.int .i64 (pcOf body).src)
  have bb2 := bb1.setCell (p := ⟨w1.heap.size + 1, 15, none⟩) hle (.int .i64 (pcOf body).dst)
  have bb3 := bb2.setCell (p := ⟨w1.heap.size + 1, 16, none⟩) hle (.int .i64 (pcOf body).flags)
  have bbZ := below_trans bb3 (below_alloc _ (.cells (pcC (pcOf body) (.slice a3 (pcOf body).opts.length k3) (.slice a4 (pcOf body).data.length k4)) 69))
  have bc0 := hb17.setCell (p := ⟨w1.heap.size + 1, 11, none⟩) hle1 (.int .i64 2)
  have bc1 := bc0.setCell (p := ⟨w1.heap.size + 1, 13, none⟩) hle1 (.int .i64 (pcOf body).src)
  have bc2 := bc1.setCell (p := ⟨w1.heap.size + 1, 15, none⟩) hle1 (.int .i64 (pcOf body).dst)
  have bc3 := bc2.setCell (p := ⟨w1.heap.size + 1, 16, none⟩) hle1 (.int .i64 (pcOf body).flags)
  have bcZ := below_trans bc3 (below_alloc _ (.cells (pcC (pcOf body) (.slice a3 (pcOf body).opts.length k3) (.slice a4 (pcOf body).data.length k4)) 69))
  obtain ⟨W8, HW8⟩ : ∃ W8, Hid ((((((w6.setCell ⟨w1.heap.size + 1, 11, none⟩ (.int .i64 2)).setCell ⟨w1.heap.size + 1, 13, none⟩ (.int .i64 (pcOf body).src)).setCell ⟨w1.heap.size + 1, 15, none⟩ (.int .i64 (pcOf body).dst)).setCell ⟨w1.heap.size + 1, 16, none⟩ (.int .i64 (pcOf body).flags)).alloc (.cells (pcC (pcOf body) (.slice a3 (pcOf body).opts.length k3) (.slice a4 (pcOf body).data.length k4)) 69)) = W8) := ⟨_, (rfl : _ = _)⟩
  rw [HW8.out] at SZ TZ bbZ bcZ
  obtain ⟨C', HC', G8⟩ : ∃ C', Hid (C' = frC ⟨tos, id, df, false, 0, ttl, pr, src, dst, opts, body⟩ (.slice a1 opts.length k1) (.slice a2 body.length k2) ⟨0, 2, w2 body 0, w2 body 2, b1 body 13, Inn.zero⟩) ∧ FC W8 (w1.heap.size + 1) C' := ⟨_, (by show _ = _; apply Array.ext'; simp only [Array.toList_set]; rfl), SZ⟩
  have hC22 : C'.size = 22 := congrArg Array.size HC'.out
  have hst := run_store_fr C' (TZ.there rfl) hC22 (by rw [HC'.out]; exact oneFr _ _ _ _ _ _ _ _)
  have hr := range_set C'.toList (by simpa using hC22) (TZ.there rfl)
  have bel8 := setCells_below w.heap.size C'.toList 0 _ w.heap.size (Nat.le_refl _) bbZ
  have hO1 := (setCells_owns w.heap.size (w.heap.size + 1) _ _ (Nat.lt_succ_self _) C'.toList 0 _ (HO.out.1.later bcZ)).bts hB1.out
  have hO2 := (setCells_owns w.heap.size (w.heap.size + 1) _ _ (Nat.lt_succ_self _) C'.toList 0 _ (HO.out.2.later bcZ)).bts hB2.out
  clear S0 S1 S2 S3 T8 T9 T10 T11 bb0 bb1 bb2 bb3 bc0 bc1 bc2 bc3 SZ TZ bbZ bcZ F5 F6 T7 hb17 hb6 bel7 hs1 hs5 hs5' hs55 hs6 hle hle1 hnq hu hl hk
  go_wp2_with (rw [HW8.out]; refine load_let rfl (.tmp 6) rfl (w1.heap.size + 1) rfl C' G8 hC22 ?_)
  refine bodyPost_ret (results_let rfl _ _ w.heap.size C' rfl hr hC22) rfl ?_
  exact ⟨a1, k1, a2, k2, C', rfl, HC', hO1, hO2, bel8⟩
end Go.Proofs.Ytdejjokgchbgnaa
