/- The contract of Read in the document's own answer: messages of ICMP, and other protocols. -/
import Derived.Test.YtdejjokgchbgnaaFrameRread
import Derived.Test.YtdejjokgchbgnaaFrameRword2
set_option maxRecDepth 100000
namespace Go.Proofs.Ytdejjokgchbgnaa
open Go.RowKit
attribute [local go_sem ↓] Go.wp_at_zero Go.wp_at_succ

set_option maxHeartbeats 800000 in
theorem rread_1 (b off len cap : Nat) (l : List Int) (w : World) (hA : At w b off len cap l) (g : Good l) (hp : partB (dgOf l) = false) (hpr : (dgOf l).proto = 1) (R : Option Addr → Nat → Option Addr → Nat → Array Value) (y : Int)
    (hR : ∀ a1 k1 a2 k2, (R a1 k1 a2 k2).size = 22) (hR1 : ∀ a1 k1 a2 k2, (R a1 k1 a2 k2).all (·.oneCell') = true)
    (g1 : ∀ a1 k1 a2 k2 b' off' C W, Hid (C = frC (dgOf l) (.slice a1 (dgOf l).opts.length k1) (.slice a2 (dgOf l).body.length k2) ⟨0, 0, 0, 0, 0, Inn.zero⟩) → (a2 = some ⟨b', off', none⟩ ∨ (dgOf l).body = []) → At W b' off' (dgOf l).body.length k2 (dgOf l).body →
      Calls Try.prog 32 #[.agg C] W fun e w' => ∃ C', e = .returned (.tuple #[.agg C', .int .i64 y]) ∧ Hid (C' = R a1 k1 a2 k2) ∧ Below W.heap.size W w') :
    Calls Try.prog 13 #[.slice (some ⟨b, off, none⟩) len cap] w fun e w' =>
      ∃ a1 k1 a2 k2 C', e = .returned (.tuple #[.agg C', .int .i64 y]) ∧ Hid (C' = R a1 k1 a2 k2) ∧ Bts w' (.slice a1 (dgOf l).opts.length k1) (dgOf l).opts ∧ Bts w' (.slice a2 (dgOf l).body.length k2) (dgOf l).body ∧ Below w.heap.size w w' := by
  obtain ⟨hmf, hoff⟩ := part_no _ hp
  have hB1 : Hid (isBytes (dgOf l).opts) := isBytes_part l hA.bytes _ _
  have hB2 : Hid (isBytes (dgOf l).body) := isBytes_part l hA.bytes _ _
  have hk := dg_ok l hA.bytes
  have hl := body_len l g
  have hpa := rparse_good b off len cap l _ (hA.later (below_alloc w (.cells zeroFC 37))) g
  rcases hpd : dgOf l with ⟨tos, id, df, mf, of, ttl, pr, src, dst, opts, body⟩
  rw [hpd] at hpa hmf hoff hB1 hB2 hk hl hpr g1
  simp only at hmf hoff hpr hl g1
  subst hmf hoff
  have z17 : (pr == 17) = false := by rw [hpr]; rfl
  have z6 : (pr == 6) = false := by rw [hpr]; rfl
  have z1 : (pr == 1) = true := by rw [hpr]; rfl
  clear hpr
  clear hA g hp hpd
  go_enter Try.func13, Try.ntmps13
  go_wp2_with fail
  refine hpa.mono ?_
  rintro e w1 ⟨a1, k1, a2, k2, rfl, ho1, ho2, hb1⟩
  have F1 := fc_new (n := w.heap.size) rfl hb1
  have hs1 := hb1.size
  simp only [World.size_alloc] at hs1 ho1 ho2
  have bel1 := below_trans (below_alloc _ _) hb1
  have hbp := below_alloc w1 (.cells (ipC ⟨tos, id, df, false, 0, ttl, pr, src, dst, opts, body⟩ (.slice a1 opts.length k1) (.slice a2 body.length k2)) 29)
  obtain ⟨W5, HW5⟩ : ∃ W5, Hid (((w1.alloc (.cells (ipC ⟨tos, id, df, false, 0, ttl, pr, src, dst, opts, body⟩ (.slice a1 opts.length k1) (.slice a2 body.length k2)) 29)).alloc (.cells zeroFC 37)).setCells (w1.alloc (.cells (ipC ⟨tos, id, df, false, 0, ttl, pr, src, dst, opts, body⟩ (.slice a1 opts.length k1) (.slice a2 body.length k2)) 29)).heap.size 0 (frC ⟨tos, id, df, false, 0, ttl, pr, src, dst, opts, body⟩ (.slice a1 opts.length k1) (.slice a2 body.length k2) ⟨0, 0, 0, 0, 0, Inn.zero⟩).toList = W5) := ⟨_, (rfl : _ = _)⟩
  have F5 : FC W5 (w1.heap.size + 1) (frC ⟨tos, id, df, false, 0, ttl, pr, src, dst, opts, body⟩ (.slice a1 opts.length k1) (.slice a2 body.length k2) ⟨0, 0, 0, 0, 0, Inn.zero⟩) := fr_at _ _ (by simp) (frC ⟨tos, id, df, false, 0, ttl, pr, src, dst, opts, body⟩ (.slice a1 opts.length k1) (.slice a2 body.length k2) ⟨0, 0, 0, 0, 0, Inn.zero⟩) rfl W5 HW5.out
  have hb5 : Below (w1.alloc (.cells (ipC ⟨tos, id, df, false, 0, ttl, pr, src, dst, opts, body⟩ (.slice a1 opts.length k1) (.slice a2 body.length k2)) 29)).heap.size (w1.alloc (.cells (ipC ⟨tos, id, df, false, 0, ttl, pr, src, dst, opts, body⟩ (.slice a1 opts.length k1) (.slice a2 body.length k2)) 29)) W5 := by rw [← HW5.out]; exact setCells_below _ _ _ _ _ (Nat.le_refl _) (below_alloc _ _)
  obtain ⟨c0, c1, c2, c3, c4, c5, c6, c7, c8, c9, c10⟩ := ip_box hb5
  have hb15 := below_trans hbp hb5
  have hs5 := hb15.size
  have hs5' := hb5.size
  simp only [World.size_alloc] at hs5'
  have hBb := (ho2.bts hB2.out).later hb15
  have HO : Hid (Owns w1 (w.heap.size + 1) (.slice a1 opts.length k1) opts ∧ Owns w1 (w.heap.size + 1) (.slice a2 body.length k2) body) := ⟨ho1, ho2⟩
  have HE : Hid (Below w.heap.size w w1) := bel1
  have HF : Hid (FC w1 w.heap.size zeroFC) := F1
  have H15 : Hid (Below w1.heap.size w1 W5) := hb15
  obtain ⟨-, b', off', ha', hA'⟩ := hBb.at_ne
  clear hpa hb1 hbp ho1 ho2 F1 bel1 hb5 hBb hb15
  obtain ⟨C0, hC0⟩ : ∃ C0, frC ⟨tos, id, df, false, 0, ttl, pr, src, dst, opts, body⟩ (.slice a1 opts.length k1) (.slice a2 body.length k2) ⟨0, 0, 0, 0, 0, Inn.zero⟩ = C0 := ⟨_, rfl⟩
  have HC0 : Hid (C0 = frC ⟨tos, id, df, false, 0, ttl, pr, src, dst, opts, body⟩ (.slice a1 opts.length k1) (.slice a2 body.length k2) ⟨0, 0, 0, 0, 0, Inn.zero⟩) := hC0.symm
  have hC022 : C0.size = 22 := congrArg Array.size HC0.out
  have hu := g1 a1 k1 a2 k2 b' off' C0 W5 HC0 ha' hA'
  have G5 : FC W5 (w1.heap.size + 1) C0 := by rw [HC0.out]; exact F5
  clear ha' hA' g1 F5 hC0
  go_wp2_with (first | (refine alloc_store rfl rfl rfl (.tmp 6) (.tmp 36) rfl (frC ⟨tos, id, df, false, 0, ttl, pr, src, dst, opts, body⟩ (.slice a1 opts.length k1) (.slice a2 body.length k2) ⟨0, 0, 0, 0, 0, Inn.zero⟩) rfl rfl rfl (oneFr _ _ _ _ _ _ _ _) _ rfl ?_; rw [HW5.out]) | (refine load_let rfl (.tmp 6) rfl (w1.heap.size + 1) rfl C0 G5 hC022 ?_))
  refine hu.mono ?_
  rintro e w6 ⟨C', rfl, HC', hb6⟩
  have hb16 := below_trans H15.out hb6
  have T6 := HF.out.later (by omega) hb16
  have hC22 : C'.size = 22 := by rw [HC'.out]; exact hR _ _ _ _
  have hst := run_store_fr C' (T6.there rfl) hC22 (by rw [HC'.out]; exact hR1 _ _ _ _)
  have hr := range_set C'.toList (by simpa using hC22) (T6.there rfl)
  have bel8 := setCells_below w.heap.size C'.toList 0 _ w.heap.size (Nat.le_refl _) (below_trans HE.out hb16)
  have hO1 := (setCells_owns w.heap.size (w.heap.size + 1) _ _ (Nat.lt_succ_self _) C'.toList 0 _ (HO.out.1.later hb16)).bts hB1.out
  have hO2 := (setCells_owns w.heap.size (w.heap.size + 1) _ _ (Nat.lt_succ_self _) C'.toList 0 _ (HO.out.2.later hb16)).bts hB2.out
  clear hu G5 hb6 hb16 T6
  go_wp2
  refine bodyPost_ret (results_let rfl _ _ w.heap.size C' rfl hr hC22) rfl ?_
  exact ⟨a1, k1, a2, k2, C', rfl, HC', hO1, hO2, bel8⟩

set_option maxHeartbeats 800000 in
theorem rread_oth (b off len cap : Nat) (l : List Int) (w : World) (hA : At w b off len cap l) (g : Good l) (hp : partB (dgOf l) = false) (g1 : ¬ (dgOf l).proto = 17 ∧ ¬ (dgOf l).proto = 6 ∧ ¬ (dgOf l).proto = 1) :
    Calls Try.prog 13 #[.slice (some ⟨b, off, none⟩) len cap] w fun e w' => e = .returned (.tuple #[.agg zeroFC, .int .i64 4]) ∧ Below w.heap.size w w' := by
  obtain ⟨hmf, hoff⟩ := part_no _ hp
  have hB1 : Hid (isBytes (dgOf l).opts) := isBytes_part l hA.bytes _ _
  have hB2 : Hid (isBytes (dgOf l).body) := isBytes_part l hA.bytes _ _
  have hk := dg_ok l hA.bytes
  have hl := body_len l g
  have hpa := rparse_good b off len cap l _ (hA.later (below_alloc w (.cells zeroFC 37))) g
  rcases hpd : dgOf l with ⟨tos, id, df, mf, of, ttl, pr, src, dst, opts, body⟩
  rw [hpd] at hpa hmf hoff hB1 hB2 hk hl g1
  simp only at hmf hoff hl g1
  subst hmf hoff
  clear hA g hp hpd
  go_enter Try.func13, Try.ntmps13
  go_wp2_with fail
  refine hpa.mono ?_
  rintro e w1 ⟨a1, k1, a2, k2, rfl, ho1, ho2, hb1⟩
  have F1 := fc_new (n := w.heap.size) rfl hb1
  have hs1 := hb1.size
  simp only [World.size_alloc] at hs1 ho1 ho2
  have bel1 := below_trans (below_alloc _ _) hb1
  have hbp := below_alloc w1 (.cells (ipC ⟨tos, id, df, false, 0, ttl, pr, src, dst, opts, body⟩ (.slice a1 opts.length k1) (.slice a2 body.length k2)) 29)
  obtain ⟨W5, HW5⟩ : ∃ W5, Hid (((w1.alloc (.cells (ipC ⟨tos, id, df, false, 0, ttl, pr, src, dst, opts, body⟩ (.slice a1 opts.length k1) (.slice a2 body.length k2)) 29)).alloc (.cells zeroFC 37)).setCells (w1.alloc (.cells (ipC ⟨tos, id, df, false, 0, ttl, pr, src, dst, opts, body⟩ (.slice a1 opts.length k1) (.slice a2 body.length k2)) 29)).heap.size 0 (frC ⟨tos, id, df, false, 0, ttl, pr, src, dst, opts, body⟩ (.slice a1 opts.length k1) (.slice a2 body.length k2) ⟨0, 0, 0, 0, 0, Inn.zero⟩).toList = W5) := ⟨_, (rfl : _ = _)⟩
  have F5 : FC W5 (w1.heap.size + 1) (frC ⟨tos, id, df, false, 0, ttl, pr, src, dst, opts, body⟩ (.slice a1 opts.length k1) (.slice a2 body.length k2) ⟨0, 0, 0, 0, 0, Inn.zero⟩) := fr_at _ _ (by simp) (frC ⟨tos, id, df, false, 0, ttl, pr, src, dst, opts, body⟩ (.slice a1 opts.length k1) (.slice a2 body.length k2) ⟨0, 0, 0, 0, 0, Inn.zero⟩) rfl W5 HW5.out
  have hb5 : Below (w1.alloc (.cells (ipC ⟨tos, id, df, false, 0, ttl, pr, src, dst, opts, body⟩ (.slice a1 opts.length k1) (.slice a2 body.length k2)) 29)).heap.size (w1.alloc (.cells (ipC ⟨tos, id, df, false, 0, ttl, pr, src, dst, opts, body⟩ (.slice a1 opts.length k1) (.slice a2 body.length k2)) 29)) W5 := by rw [← HW5.out]; exact setCells_below _ _ _ _ _ (Nat.le_refl _) (below_alloc _ _)
  obtain ⟨c0, c1, c2, c3, c4, c5, c6, c7, c8, c9, c10⟩ := ip_box hb5
  have hb15 := below_trans hbp hb5
  have hs5 := hb15.size
  have hs5' := hb5.size
  simp only [World.size_alloc] at hs5'
  have hBb := (ho2.bts hB2.out).later hb15
  have HO : Hid (Owns w1 (w.heap.size + 1) (.slice a1 opts.length k1) opts ∧ Owns w1 (w.heap.size + 1) (.slice a2 body.length k2) body) := ⟨ho1, ho2⟩
  have HE : Hid (Below w.heap.size w w1) := bel1
  have HF : Hid (FC w1 w.heap.size zeroFC) := F1
  have H15 : Hid (Below w1.heap.size w1 W5) := hb15
  obtain ⟨-, b', off', ha', hA'⟩ := hBb.at_ne
  clear hpa hb1 hbp ho1 ho2 F1 bel1 hb5 hBb hb15
  have z17 : (pr == 17) = false := by simpa using g1.1
  have z6 : (pr == 6) = false := by simpa using g1.2.1
  have z1 : (pr == 1) = false := by simpa using g1.2.2
  have T5 := HF.out.later (by omega) H15.out
  have bel5 := below_trans HE.out H15.out
  clear ha' hA' g1 F5
  go_wp2_with (first | (refine alloc_store rfl rfl rfl (.tmp 6) (.tmp 36) rfl (frC ⟨tos, id, df, false, 0, ttl, pr, src, dst, opts, body⟩ (.slice a1 opts.length k1) (.slice a2 body.length k2) ⟨0, 0, 0, 0, 0, Inn.zero⟩) rfl rfl rfl (oneFr _ _ _ _ _ _ _ _) _ rfl ?_; rw [HW5.out]) | (refine store_fr rfl (.tmp 2) (.tmp 39) rfl w.heap.size zeroFC rfl rfl (T5.there rfl) rfl oneZ ?_))
  refine bodyPost_ret (results_fr2 rfl _ _ w.heap.size _ rfl (range_set zeroFC.toList rfl (T5.there rfl)) rfl) rfl ?_
  exact ⟨rfl, setCells_below _ _ _ _ _ (Nat.le_refl _) bel5⟩

end Go.Proofs.Ytdejjokgchbgnaa
