/- The contract of Read in the document's own answer: what is no datagram and no segment. -/
import Derived.Test.YtdejjokgchbgnaaFrameRread
import Derived.Test.YtdejjokgchbgnaaTcpRparse2
set_option maxRecDepth 100000
namespace Go.Proofs.Ytdejjokgchbgnaa
open Go.RowKit
attribute [local go_sem ↓] Go.wp_at_zero Go.wp_at_succ

set_option maxHeartbeats 800000 in
theorem rread_17_no (b off len cap : Nat) (l : List Int) (w : World) (hA : At w b off len cap l) (g : Good l) (hp : partB (dgOf l) = false) (hpr : (dgOf l).proto = 17) (g1 : ¬ parseU (dgOf l).src (dgOf l).dst (dgOf l).body = 0) :
    Calls Try.prog 13 #[.slice (some ⟨b, off, none⟩) len cap] w fun e w' => e = .returned (.tuple #[.agg zeroFC, .int .i64 (whyI (parseU (dgOf l).src (dgOf l).dst (dgOf l).body))]) ∧ Below w.heap.size w w' := by
  obtain ⟨hmf, hoff⟩ := part_no _ hp
  have hB1 : Hid (isBytes (dgOf l).opts) := isBytes_part l hA.bytes _ _
  have hB2 : Hid (isBytes (dgOf l).body) := isBytes_part l hA.bytes _ _
  have hk := dg_ok l hA.bytes
  have hl := body_len l g
  have hpa := rparse_good b off len cap l _ (hA.later (below_alloc w (.cells zeroFC 37))) g
  rcases hpd : dgOf l with ⟨tos, id, df, mf, of, ttl, pr, src, dst, opts, body⟩
  rw [hpd] at hpa hmf hoff hB1 hB2 hk hl hpr g1
  simp only at hmf hoff hpr hl g1
  subst hmf hoff
  have z17 : (pr == 17) = true := by rw [hpr]; rfl
  clear hpr
  clear hA g hp hpd
  go_enter Try.func13, Try.ntmps13
  go_wp2_with fail
  refine hpa.mono ?_
  rintro e w1 ⟨a1, k1, a2, k2, rfl, ho1, ho2, hb1⟩
  have F1 := fc_new (n := w.heap.size) rfl hb1
  have hs1 := hb1.size
  simp only [World.size_alloc] at hs1 ho1 ho2
  have bel1 := below_trans (below_alloc _ _) hb1
  have hbp := below_alloc w1 (.cells (ipC ⟨tos, id, df, false, 0, ttl, pr, src, dst, opts, body⟩ (.slice a1 opts.length k1) (.slice a2 body.length k2)) 29)
  obtain ⟨W5, HW5⟩ : ∃ W5, Hid (((w1.alloc (.cells (ipC ⟨tos, id, df, false, 0, ttl, pr, src, dst, opts, body⟩ (.slice a1 opts.length k1) (.slice a2 body.length k2)) 29)).alloc (.cells zeroFC 37)).setCells (w1.alloc (.cells (ipC ⟨tos, id, df, false, 0, ttl, pr, src, dst, opts, body⟩ (.slice a1 opts.length k1) (.slice a2 body.length k2)) 29)).heap.size 0 (frC ⟨tos, id, df, false, 0, ttl, pr, src, dst, opts, body⟩ (.slice a1 opts.length k1) (.slice a2 body.length k2) ⟨0, 0, 0, 0, 0, Inn.zero⟩).toList = W5) := ⟨_, (rfl : _ = _)⟩
  have F5 : FC W5 (w1.heap.size + 1) (frC ⟨tos, id, df, false, 0, ttl, pr, src, dst, opts, body⟩ (.slice a1 opts.length k1) (.slice a2 body.length k2) ⟨0, 0, 0, 0, 0, Inn.zero⟩) := fr_at _ _ (by simp) (frC ⟨tos, id, df, false, 0, ttl, pr, src, dst, opts, body⟩ (.slice a1 opts.length k1) (.slice a2 body.length k2) ⟨0, 0, 0, 0, 0, Inn.zero⟩) rfl W5 HW5.out
  have hb5 : Below (w1.alloc (.cells (ipC ⟨tos, id, df, false, 0, ttl, pr, src, dst, opts, body⟩ (.slice a1 opts.length k1) (.slice a2 body.length k2)) 29)).heap.size (w1.alloc (.cells (ipC ⟨tos, id, df, false, 0, ttl, pr, src, dst, opts, body⟩ (.slice a1 opts.length k1) (.slice a2 body.length k2)) 29)) W5 := by rw [← HW5.out]; exact setCells_below _ _ _ _ _ (Nat.le_refl _) (below_alloc _ _)
  obtain ⟨c0, c1, c2, c3, c4, c5, c6, c7, c8, c9, c10⟩ := ip_box hb5
  have hb15 := below_trans hbp hb5
  have hs5 := hb15.size
  have hs5' := hb5.size
  simp only [World.size_alloc] at hs5'
  have hBb := (ho2.bts hB2.out).later hb15
  have HO : Hid (Owns w1 (w.heap.size + 1) (.slice a1 opts.length k1) opts ∧ Owns w1 (w.heap.size + 1) (.slice a2 body.length k2) body) := ⟨ho1, ho2⟩
  have HE : Hid (Below w.heap.size w w1) := bel1
  have HF : Hid (FC w1 w.heap.size zeroFC) := F1
  have H15 : Hid (Below w1.heap.size w1 W5) := hb15
  obtain ⟨-, b', off', ha', hA'⟩ := hBb.at_ne
  clear hpa hb1 hbp ho1 ho2 F1 bel1 hb5 hBb hb15
  have hne : (parseU src dst body != 0) = true := by rw [bne_iff_ne]; exact g1
  have hu := urparse_no src dst a2 b' off' body.length k2 body W5 hk.src0 hk.src1 hk.dst0 hk.dst1 ha' hA' hl g1
  clear ha' hA' g1
  go_wp2_with (refine alloc_store rfl rfl rfl (.tmp 6) (.tmp 36) rfl (frC ⟨tos, id, df, false, 0, ttl, pr, src, dst, opts, body⟩ (.slice a1 opts.length k1) (.slice a2 body.length k2) ⟨0, 0, 0, 0, 0, Inn.zero⟩) rfl rfl rfl (oneFr _ _ _ _ _ _ _ _) _ rfl ?_; rw [HW5.out])
  refine hu.mono ?_
  rintro e w6 ⟨rfl, hb6⟩
  have hu7 := below_alloc w6 (.cells (udC Ud.zero (.slice none 0 0)) 49)
  have hb17 := below_trans H15.out (below_trans hb6 hu7)
  have T7 := HF.out.later (by omega) hb17
  have bel7 := below_trans HE.out hb17
  clear hu hb6 hu7 F5
  go_wp2_with fail
  refine (rwhy_any _ _).mono ?_
  rintro e w8 ⟨rfl, rfl⟩
  go_wp2_with (refine store_fr rfl (.tmp 2) (.tmp 54) rfl w.heap.size zeroFC rfl rfl (T7.there rfl) rfl oneZ ?_)
  refine bodyPost_ret (results_fr2 rfl _ _ w.heap.size _ rfl (range_set zeroFC.toList rfl (T7.there rfl)) rfl) rfl ?_
  exact ⟨rfl, setCells_below _ _ _ _ _ (Nat.le_refl _) bel7⟩

set_option maxHeartbeats 800000 in
theorem rread_6_no (b off len cap : Nat) (l : List Int) (w : World) (hA : At w b off len cap l) (g : Good l) (hp : partB (dgOf l) = false) (hpr : (dgOf l).proto = 6) (g1 : ¬ parseT (dgOf l).src (dgOf l).dst (dgOf l).body = 0) :
    Calls Try.prog 13 #[.slice (some ⟨b, off, none⟩) len cap] w fun e w' => e = .returned (.tuple #[.agg zeroFC, .int .i64 (whyI (parseT (dgOf l).src (dgOf l).dst (dgOf l).body))]) ∧ Below w.heap.size w w' := by
  obtain ⟨hmf, hoff⟩ := part_no _ hp
  have hB1 : Hid (isBytes (dgOf l).opts) := isBytes_part l hA.bytes _ _
  have hB2 : Hid (isBytes (dgOf l).body) := isBytes_part l hA.bytes _ _
  have hk := dg_ok l hA.bytes
  have hl := body_len l g
  have hpa := rparse_good b off len cap l _ (hA.later (below_alloc w (.cells zeroFC 37))) g
  rcases hpd : dgOf l with ⟨tos, id, df, mf, of, ttl, pr, src, dst, opts, body⟩
  rw [hpd] at hpa hmf hoff hB1 hB2 hk hl hpr g1
  simp only at hmf hoff hpr hl g1
  subst hmf hoff
  have z17 : (pr == 17) = false := by rw [hpr]; rfl
  have z6 : (pr == 6) = true := by rw [hpr]; rfl
  clear hpr
  clear hA g hp hpd
  go_enter Try.func13, Try.ntmps13
  go_wp2_with fail
  refine hpa.mono ?_
  rintro e w1 ⟨a1, k1, a2, k2, rfl, ho1, ho2, hb1⟩
  have F1 := fc_new (n := w.heap.size) rfl hb1
  have hs1 := hb1.size
  simp only [World.size_alloc] at hs1 ho1 ho2
  have bel1 := below_trans (below_alloc _ _) hb1
  have hbp := below_alloc w1 (.cells (ipC ⟨tos, id, df, false, 0, ttl, pr, src, dst, opts, body⟩ (.slice a1 opts.length k1) (.slice a2 body.length k2)) 29)
  obtain ⟨W5, HW5⟩ : ∃ W5, Hid (((w1.alloc (.cells (ipC ⟨tos, id, df, false, 0, ttl, pr, src, dst, opts, body⟩ (.slice a1 opts.length k1) (.slice a2 body.length k2)) 29)).alloc (.cells zeroFC 37)).setCells (w1.alloc (.cells (ipC ⟨tos, id, df, false, 0, ttl, pr, src, dst, opts, body⟩ (.slice a1 opts.length k1) (.slice a2 body.length k2)) 29)).heap.size 0 (frC ⟨tos, id, df, false, 0, ttl, pr, src, dst, opts, body⟩ (.slice a1 opts.length k1) (.slice a2 body.length k2) ⟨0, 0, 0, 0, 0, Inn.zero⟩).toList = W5) := ⟨_, (rfl : _ = _)⟩
  have F5 : FC W5 (w1.heap.size + 1) (frC ⟨tos, id, df, false, 0, ttl, pr, src, dst, opts, body⟩ (.slice a1 opts.length k1) (.slice a2 body.length k2) ⟨0, 0, 0, 0, 0, Inn.zero⟩) := fr_at _ _ (by simp) (frC ⟨tos, id, df, false, 0, ttl, pr, src, dst, opts, body⟩ (.slice a1 opts.length k1) (.slice a2 body.length k2) ⟨0, 0, 0, 0, 0, Inn.zero⟩) rfl W5 HW5.out
  have hb5 : Below (w1.alloc (.cells (ipC ⟨tos, id, df, false, 0, ttl, pr, src, dst, opts, body⟩ (.slice a1 opts.length k1) (.slice a2 body.length k2)) 29)).heap.size (w1.alloc (.cells (ipC ⟨tos, id, df, false, 0, ttl, pr, src, dst, opts, body⟩ (.slice a1 opts.length k1) (.slice a2 body.length k2)) 29)) W5 := by rw [← HW5.out]; exact setCells_below _ _ _ _ _ (Nat.le_refl _) (below_alloc _ _)
  obtain ⟨c0, c1, c2, c3, c4, c5, c6, c7, c8, c9, c10⟩ := ip_box hb5
  have hb15 := below_trans hbp hb5
  have hs5 := hb15.size
  have hs5' := hb5.size
  simp only [World.size_alloc] at hs5'
  have hBb := (ho2.bts hB2.out).later hb15
  have HO : Hid (Owns w1 (w.heap.size + 1) (.slice a1 opts.length k1) opts ∧ Owns w1 (w.heap.size + 1) (.slice a2 body.length k2) body) := ⟨ho1, ho2⟩
  have HE : Hid (Below w.heap.size w w1) := bel1
  have HF : Hid (FC w1 w.heap.size zeroFC) := F1
  have H15 : Hid (Below w1.heap.size w1 W5) := hb15
  obtain ⟨-, b', off', ha', hA'⟩ := hBb.at_ne
  clear hpa hb1 hbp ho1 ho2 F1 bel1 hb5 hBb hb15
  have hne : (parseT src dst body != 0) = true := by rw [bne_iff_ne]; exact g1
  have hu := trparse_no src dst a2 b' off' body.length k2 body W5 hk.src0 hk.src1 hk.dst0 hk.dst1 ha' hA' hl g1
  clear ha' hA' g1
  go_wp2_with (refine alloc_store rfl rfl rfl (.tmp 6) (.tmp 36) rfl (frC ⟨tos, id, df, false, 0, ttl, pr, src, dst, opts, body⟩ (.slice a1 opts.length k1) (.slice a2 body.length k2) ⟨0, 0, 0, 0, 0, Inn.zero⟩) rfl rfl rfl (oneFr _ _ _ _ _ _ _ _) _ rfl ?_; rw [HW5.out])
  refine hu.mono ?_
  rintro e w6 ⟨rfl, hb6⟩
  have hu7 := below_alloc w6 (.cells (pcC Pc.zero (.slice none 0 0) (.slice none 0 0)) 69)
  have hb17 := below_trans H15.out (below_trans hb6 hu7)
  have T7 := HF.out.later (by omega) hb17
  have bel7 := below_trans HE.out hb17
  clear hu hb6 hu7 F5
  go_wp2_with fail
  refine (rwhy_any _ _).mono ?_
  rintro e w8 ⟨rfl, rfl⟩
  go_wp2_with (refine store_fr rfl (.tmp 2) (.tmp 80) rfl w.heap.size zeroFC rfl rfl (T7.there rfl) rfl oneZ ?_)
  refine bodyPost_ret (results_fr2 rfl _ _ w.heap.size _ rfl (range_set zeroFC.toList rfl (T7.there rfl)) rfl) rfl ?_
  exact ⟨rfl, setCells_below _ _ _ _ _ (Nat.le_refl _) bel7⟩

end Go.Proofs.Ytdejjokgchbgnaa
