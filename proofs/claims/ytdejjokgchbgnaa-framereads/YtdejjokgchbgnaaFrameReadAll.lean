/- The contract of Read, whole. -/
import Derived.Test.YtdejjokgchbgnaaFrameUdp
import Derived.Test.YtdejjokgchbgnaaFrameMessage
set_option maxRecDepth 100000
namespace Go.Proofs.Ytdejjokgchbgnaa
open Go.RowKit
attribute [local go_sem ↓] Go.wp_at_zero Go.wp_at_succ

set_option maxHeartbeats 4000000 in
theorem read_err (a : Option Addr) (b off len cap : Nat) (l : List Int) (w : World) (ha : a = some ⟨b, off, none⟩ ∨ l = []) (hA : At w b off len cap l) (h : ¬ parseE l = 0) :
    Calls Try.prog 12 #[.slice a len cap] w fun e w' => e = .returned (.tuple #[.agg zeroFC, .int .i64 (whyI (parseE l))]) ∧ Below w.heap.size w w' := by
  have hb1 := below_alloc w (.cells zeroFC 37)
  have hu := parse_no a b off len cap l _ ha (hA.later hb1) h
  have hne : (parseE l != 0) = true := by rw [bne_iff_ne]; exact h
  clear hA h
  go_enter Try.func12, Try.ntmps12
  go_wp2_with fail
  refine hu.mono ?_
  rintro e w3 ⟨rfl, hb3⟩
  have F3 := fc_new (n := w.heap.size) rfl hb3
  have hs3 := hb3.size
  simp only [World.size_alloc] at hs3
  have bel3 := below_trans hb1 hb3
  clear hu hb1 hb3
  go_wp2_with fail
  refine (whyOf_any _ _).mono ?_
  rintro e w4 ⟨rfl, rfl⟩
  have F4 := F3.later (by omega) (below_alloc w3 (.cells (ipC Dg.zero (.slice none 0 0) (.slice none 0 0)) 29))
  have bel4 := below_trans bel3 (below_alloc w3 (.cells (ipC Dg.zero (.slice none 0 0) (.slice none 0 0)) 29))
  go_wp2_with (refine store_fr rfl (.tmp 2) (.tmp 14) rfl w.heap.size zeroFC rfl rfl (F4.there rfl) rfl oneZ ?_)
  refine bodyPost_ret (results_fr2 rfl _ _ w.heap.size _ rfl (range_set zeroFC.toList rfl (F4.there rfl)) rfl) rfl ?_
  exact ⟨rfl, setCells_below _ _ _ _ _ (Nat.le_refl _) bel4⟩

set_option maxHeartbeats 4000000 in
theorem read_part (b off len cap : Nat) (l : List Int) (w : World) (hA : At w b off len cap l) (g : Good l) (hp : partB (dgOf l) = true) :
    Calls Try.prog 12 #[.slice (some ⟨b, off, none⟩) len cap] w fun e w' => e = .returned (.tuple #[.agg zeroFC, .int .i64 3]) ∧ Below w.heap.size w w' := by
  have hb1 := below_alloc w (.cells zeroFC 37)
  have hpa := parse_ok b off len cap l _ (hA.later hb1) g
  rcases hpd : dgOf l with ⟨tos, id, df, mf, of, ttl, pr, src, dst, opts, body⟩
  rw [hpd] at hpa hp
  have hpp : mf = true ∨ (mf = false ∧ (of != 0) = true) := by
    unfold partB at hp
    simp only at hp
    cases mf
    · right; refine ⟨rfl, ?_⟩; simpa using hp
    · left; rfl
  clear hA g hpd hp
  rcases hpp with rfl | ⟨rfl, hof⟩
  all_goals
    go_enter Try.func12, Try.ntmps12
    go_wp2_with fail
    refine hpa.mono ?_
    rintro e w3 ⟨a1, k1, a2, k2, rfl, -, -, hb3⟩
    have F3 := fc_new (n := w.heap.size) rfl hb3
    have hs3 := hb3.size
    simp only [World.size_alloc] at hs3
    have bel3 := below_trans hb1 hb3
    clear hpa hb1 hb3
  · have F4 := F3.later (by omega) (below_alloc w3 (.cells (ipC ⟨tos, id, df, true, of, ttl, pr, src, dst, opts, body⟩ (.slice a1 opts.length k1) (.slice a2 body.length k2)) 29))
    have bel4 := below_trans bel3 (below_alloc w3 (.cells (ipC ⟨tos, id, df, true, of, ttl, pr, src, dst, opts, body⟩ (.slice a1 opts.length k1) (.slice a2 body.length k2)) 29))
    go_wp2_with (refine store_fr rfl (.tmp 2) (.tmp 25) rfl w.heap.size zeroFC rfl rfl (F4.there rfl) rfl oneZ ?_)
    refine bodyPost_ret (results_fr2 rfl _ _ w.heap.size _ rfl (range_set zeroFC.toList rfl (F4.there rfl)) rfl) rfl ?_
    exact ⟨rfl, setCells_below _ _ _ _ _ (Nat.le_refl _) bel4⟩
  · have F4 := F3.later (by omega) (below_alloc w3 (.cells (ipC ⟨tos, id, df, false, of, ttl, pr, src, dst, opts, body⟩ (.slice a1 opts.length k1) (.slice a2 body.length k2)) 29))
    have bel4 := below_trans bel3 (below_alloc w3 (.cells (ipC ⟨tos, id, df, false, of, ttl, pr, src, dst, opts, body⟩ (.slice a1 opts.length k1) (.slice a2 body.length k2)) 29))
    go_wp2_with (refine store_fr rfl (.tmp 2) (.tmp 25) rfl w.heap.size zeroFC rfl rfl (F4.there rfl) rfl oneZ ?_)
    refine bodyPost_ret (results_fr2 rfl _ _ w.heap.size _ rfl (range_set zeroFC.toList rfl (F4.there rfl)) rfl) rfl ?_
    exact ⟨rfl, setCells_below _ _ _ _ _ (Nat.le_refl _) bel4⟩

theorem read_tcp_ok (b off len cap : Nat) (l : List Int) (w : World) (hA : At w b off len cap l) (g : Good l) (hp : partB (dgOf l) = false) (h6 : (dgOf l).proto = 6) (hu : parseT (dgOf l).src (dgOf l).dst (dgOf l).body = 0) :
    Calls Try.prog 12 #[.slice (some ⟨b, off, none⟩) len cap] w fun e w' =>
      ∃ a1 k1 a2 k2, e = .returned (.tuple #[.agg (frC (dgOf l) (.slice a1 (dgOf l).opts.length k1) (.slice a2 (dgOf l).body.length k2) (rsOf (dgOf l))), .int .i64 0]) ∧ Bts w' (.slice a1 (dgOf l).opts.length k1) (dgOf l).opts ∧ Bts w' (.slice a2 (dgOf l).body.length k2) (dgOf l).body ∧ Below w.heap.size w w' := by
  have h17 : ¬ (dgOf l).proto = 17 := by omega
  have hr : rsOf (dgOf l) = ⟨0, 2, w2 (dgOf l).body 0, w2 (dgOf l).body 2, b1 (dgOf l).body 13, Inn.zero⟩ := by unfold rsOf rsT; rw [if_neg h17, if_pos h6, if_pos hu]
  have hk := dg_ok l hA.bytes
  have hl := body_len l g
  refine read_6 b off len cap l w hA g hp (by unfold wayF; rw [if_neg h17, if_pos h6]) (fun a1 k1 a2 k2 => frC (dgOf l) (.slice a1 (dgOf l).opts.length k1) (.slice a2 (dgOf l).body.length k2) (rsOf (dgOf l))) 0 (fun _ _ _ _ => rfl) (fun _ _ _ _ => oneFr _ _ _ _ _ _ _ _) ?_
  intro a1 k1 a2 k2 W hO hB
  obtain ⟨-, b', off', ha, hA'⟩ := hB.at_ne
  have g' := tgood_of _ _ _ hu
  rcases ha with rfl | ha
  · rw [hr]
    exact segment_ok (dgOf l) a1 _ k1 b' off' _ k2 W hk hA' hl g'
  · have := g'.a; rw [ha] at this; simp at this

theorem read_tcp_no (b off len cap : Nat) (l : List Int) (w : World) (hA : At w b off len cap l) (g : Good l) (hp : partB (dgOf l) = false) (h6 : (dgOf l).proto = 6) (hu : ¬ parseT (dgOf l).src (dgOf l).dst (dgOf l).body = 0) :
    Calls Try.prog 12 #[.slice (some ⟨b, off, none⟩) len cap] w fun e w' => e = .returned (.tuple #[.agg zeroFC, .int .i64 (rsOf (dgOf l)).why]) ∧ Below w.heap.size w w' := by
  have h17 : ¬ (dgOf l).proto = 17 := by omega
  have hr : (rsOf (dgOf l)).why = whyI (parseT (dgOf l).src (dgOf l).dst (dgOf l).body) := by unfold rsOf rsT; rw [if_neg h17, if_pos h6, if_neg hu]; rfl
  have hk := dg_ok l hA.bytes
  have hl := body_len l g
  refine (read_6 b off len cap l w hA g hp (by unfold wayF; rw [if_neg h17, if_pos h6]) (fun _ _ _ _ => zeroFC) (rsOf (dgOf l)).why (fun _ _ _ _ => rfl) (fun _ _ _ _ => oneZ) ?_).mono ?_
  · intro a1 k1 a2 k2 W hO hB
    obtain ⟨-, b', off', ha, hA'⟩ := hB.at_ne
    rw [hr]
    exact segment_no (dgOf l) a1 a2 _ k1 b' off' _ k2 W hk ha hA' hl hu
  · rintro e w' ⟨_, _, _, _, rfl, -, -, hb⟩
    exact ⟨rfl, hb⟩

theorem read_icmp_no (b off len cap : Nat) (l : List Int) (w : World) (hA : At w b off len cap l) (g : Good l) (hp : partB (dgOf l) = false) (h1 : (dgOf l).proto = 1) (h : ¬ (rsOf (dgOf l)).why = 0) :
    Calls Try.prog 12 #[.slice (some ⟨b, off, none⟩) len cap] w fun e w' => e = .returned (.tuple #[.agg zeroFC, .int .i64 (rsOf (dgOf l)).why]) ∧ Below w.heap.size w w' := by
  have h17 : ¬ (dgOf l).proto = 17 := by omega
  have h6 : ¬ (dgOf l).proto = 6 := by omega
  have hr : rsOf (dgOf l) = rsW (dgOf l) := by unfold rsOf; rw [if_neg h17, if_neg h6, if_pos h1]
  have hl := body_len l g
  refine (read_1 b off len cap l w hA g hp (by unfold wayF; rw [if_neg h17, if_neg h6, if_pos h1]) (fun _ _ _ _ => zeroFC) (rsOf (dgOf l)).why (fun _ _ _ _ => rfl) (fun _ _ _ _ => oneZ) ?_).mono ?_
  · intro a1 k1 a2 k2 W hO hB
    obtain ⟨-, b', off', ha, hA'⟩ := hB.at_ne
    rw [hr] at h ⊢
    by_cases hu : parseW (dgOf l).body = 0
    · have g' := wgood_of _ hu
      have e : rsW (dgOf l) = rsK (dgOf l).body := if_pos hu
      rw [e] at h ⊢
      rcases ha with rfl | ha
      · by_cases k0 : kindW (b1 (dgOf l).body 0) (b1 (dgOf l).body 1) = 0
        · rw [show rsK (dgOf l).body = noRs 4 from if_pos k0]
          exact message_none (dgOf l) a1 _ k1 b' off' _ k2 W hA' hl g' k0
        by_cases k5 : kindW (b1 (dgOf l).body 0) (b1 (dgOf l).body 1) = 5
        · have e5 : rsK (dgOf l).body = rsF ((dgOf l).body.drop 8) := by unfold rsK; rw [if_neg k0, if_pos k5]
          rw [e5] at h ⊢
          rcases hq : quoteO ((dgOf l).body.drop 8) with _ | x
          · rw [show rsF ((dgOf l).body.drop 8) = noRs 1 by unfold rsF; rw [hq]]
            refine message_fault (dgOf l) a1 _ k1 b' off' _ k2 W hA' hl g' k5 zeroFC 1 rfl oneZ ?_
            intro a3 k3 W' hD
            obtain ⟨-, b3, off3, ha3, hA3⟩ := hD.at_ne
            exact fault_no (dgOf l) a1 _ _ k1 _ k2 a3 b3 off3 _ k3 _ W' ha3 hA3 hq
          · exact absurd (by unfold rsF; rw [hq]) h
        · exact absurd (by unfold rsK; rw [if_neg k0, if_neg k5]) h
      · have := g'.a; rw [ha] at this; simp at this
    · rw [show rsW (dgOf l) = noRs (whyI (parseW (dgOf l).body)) from if_neg hu]
      exact message_no (dgOf l) a1 a2 _ k1 b' off' _ k2 W ha hA' hl hu
  · rintro e w' ⟨_, _, _, _, rfl, -, -, hb⟩
    exact ⟨rfl, hb⟩

theorem read_icmp_ok (b off len cap : Nat) (l : List Int) (w : World) (hA : At w b off len cap l) (g : Good l) (hp : partB (dgOf l) = false) (h1 : (dgOf l).proto = 1) (h : (rsOf (dgOf l)).why = 0) :
    Calls Try.prog 12 #[.slice (some ⟨b, off, none⟩) len cap] w fun e w' =>
      ∃ a1 k1 a2 k2, e = .returned (.tuple #[.agg (frC (dgOf l) (.slice a1 (dgOf l).opts.length k1) (.slice a2 (dgOf l).body.length k2) (rsOf (dgOf l))), .int .i64 0]) ∧ Bts w' (.slice a1 (dgOf l).opts.length k1) (dgOf l).opts ∧ Bts w' (.slice a2 (dgOf l).body.length k2) (dgOf l).body ∧ Below w.heap.size w w' := by
  have h17 : ¬ (dgOf l).proto = 17 := by omega
  have h6 : ¬ (dgOf l).proto = 6 := by omega
  have hr : rsOf (dgOf l) = rsW (dgOf l) := by unfold rsOf; rw [if_neg h17, if_neg h6, if_pos h1]
  have hl := body_len l g
  refine read_1 b off len cap l w hA g hp (by unfold wayF; rw [if_neg h17, if_neg h6, if_pos h1]) (fun a1 k1 a2 k2 => frC (dgOf l) (.slice a1 (dgOf l).opts.length k1) (.slice a2 (dgOf l).body.length k2) (rsOf (dgOf l))) 0 (fun _ _ _ _ => rfl) (fun _ _ _ _ => oneFr _ _ _ _ _ _ _ _) ?_
  intro a1 k1 a2 k2 W hO hB
  obtain ⟨-, b', off', ha, hA'⟩ := hB.at_ne
  rw [hr] at h ⊢
  by_cases hu : parseW (dgOf l).body = 0
  · have g' := wgood_of _ hu
    have e : rsW (dgOf l) = rsK (dgOf l).body := if_pos hu
    rw [e] at h ⊢
    rcases ha with rfl | ha
    · by_cases k0 : kindW (b1 (dgOf l).body 0) (b1 (dgOf l).body 1) = 0
      · rw [show rsK (dgOf l).body = noRs 4 from if_pos k0] at h
        exact absurd h (by decide)
      by_cases k5 : kindW (b1 (dgOf l).body 0) (b1 (dgOf l).body 1) = 5
      · have e5 : rsK (dgOf l).body = rsF ((dgOf l).body.drop 8) := by unfold rsK; rw [if_neg k0, if_pos k5]
        rw [e5] at h ⊢
        rcases hq : quoteO ((dgOf l).body.drop 8) with _ | x
        · rw [show rsF ((dgOf l).body.drop 8) = noRs 1 by unfold rsF; rw [hq]] at h
          exact absurd h (by decide)
        · rw [show rsF ((dgOf l).body.drop 8) = ⟨0, 5, 0, 0, 0, x⟩ by unfold rsF; rw [hq]]
          refine message_fault (dgOf l) a1 _ k1 b' off' _ k2 W hA' hl g' k5 _ 0 rfl (oneFr _ _ _ _ _ _ _ _) ?_
          intro a3 k3 W' hD
          obtain ⟨hn3, b3, off3, ha3, hA3⟩ := hD.at_ne
          rcases ha3 with rfl | ha3
          · exact fault_ok (dgOf l) a1 _ _ k1 _ k2 b3 off3 _ k3 _ x W' hA3 hq
          · have hn : ¬ Head ((dgOf l).body.drop 8) := fun q => by have := q.a; rw [show (dgOf l).body.drop 8 = [] from ha3] at this; simp at this
            unfold quoteO at hq
            rw [if_neg (fun q => hn q.1)] at hq
            cases hq
      · rw [show rsK (dgOf l).body = ⟨0, kindW (b1 (dgOf l).body 0) (b1 (dgOf l).body 1), w2 (dgOf l).body 4, w2 (dgOf l).body 4, 0, Inn.zero⟩ by unfold rsK; rw [if_neg k0, if_neg k5]]
        exact message_echo (dgOf l) a1 _ k1 b' off' _ k2 W hA' hl g' k0 k5
    · have := g'.a; rw [ha] at this; simp at this
  · rw [show rsW (dgOf l) = noRs (whyI (parseW (dgOf l).body)) from if_neg hu] at h
    exact absurd h (whyI_pos _)

theorem read_no (a : Option Addr) (b off len cap : Nat) (l : List Int) (w : World) (ha : a = some ⟨b, off, none⟩ ∨ l = []) (hA : At w b off len cap l) (h : ¬ (readR l).why = 0) :
    Calls Try.prog 12 #[.slice a len cap] w fun e w' => e = .returned (.tuple #[.agg zeroFC, .int .i64 (readR l).why]) ∧ Below w.heap.size w w' := by
  by_cases hE : parseE l = 0
  · have g := good_of l hE
    have hl := g.b
    rcases ha with rfl | rfl
    case inr => simp at hl
    by_cases hp : partB (dgOf l) = true
    · rw [show readR l = noRs 3 by unfold readR; rw [if_pos hE, if_pos hp]]
      exact read_part b off len cap l w hA g hp
    · have hr : readR l = rsOf (dgOf l) := by unfold readR; rw [if_pos hE, if_neg hp]
      have hp' : partB (dgOf l) = false := by simpa using hp
      rw [hr] at h ⊢
      by_cases h17 : (dgOf l).proto = 17
      · by_cases hu : parseU (dgOf l).src (dgOf l).dst (dgOf l).body = 0
        · exact absurd (by unfold rsOf rsU; rw [if_pos h17, if_pos hu]) h
        · exact read_udp_no b off len cap l w hA g hp' h17 hu
      by_cases h6 : (dgOf l).proto = 6
      · by_cases hu : parseT (dgOf l).src (dgOf l).dst (dgOf l).body = 0
        · exact absurd (by unfold rsOf rsT; rw [if_neg h17, if_pos h6, if_pos hu]) h
        · exact read_tcp_no b off len cap l w hA g hp' h6 hu
      by_cases h1 : (dgOf l).proto = 1
      · exact read_icmp_no b off len cap l w hA g hp' h1 h
      · rw [show rsOf (dgOf l) = noRs 4 by unfold rsOf; rw [if_neg h17, if_neg h6, if_neg h1]]
        exact read_oth b off len cap l w hA g hp' h17 h6 h1
  · rw [show readR l = noRs (whyI (parseE l)) from if_neg hE]
    exact read_err a b off len cap l w ha hA hE

theorem read_ok (b off len cap : Nat) (l : List Int) (w : World) (hA : At w b off len cap l) (h : (readR l).why = 0) :
    Calls Try.prog 12 #[.slice (some ⟨b, off, none⟩) len cap] w fun e w' =>
      ∃ a1 k1 a2 k2, e = .returned (.tuple #[.agg (frC (dgOf l) (.slice a1 (dgOf l).opts.length k1) (.slice a2 (dgOf l).body.length k2) (readR l)), .int .i64 0]) ∧ Bts w' (.slice a1 (dgOf l).opts.length k1) (dgOf l).opts ∧ Bts w' (.slice a2 (dgOf l).body.length k2) (dgOf l).body ∧ Below w.heap.size w w' := by
  obtain ⟨hE, hp, hr⟩ := readR_ok l h
  have g := good_of l hE
  rw [hr] at h ⊢
  by_cases h17 : (dgOf l).proto = 17
  · by_cases hu : parseU (dgOf l).src (dgOf l).dst (dgOf l).body = 0
    · exact read_udp_ok b off len cap l w hA g hp h17 hu
    · exact absurd h (by unfold rsOf rsU; rw [if_pos h17, if_neg hu]; exact whyI_pos _)
  by_cases h6 : (dgOf l).proto = 6
  · by_cases hu : parseT (dgOf l).src (dgOf l).dst (dgOf l).body = 0
    · exact read_tcp_ok b off len cap l w hA g hp h6 hu
    · exact absurd h (by unfold rsOf rsT; rw [if_neg h17, if_pos h6, if_neg hu]; exact whyI_pos _)
  by_cases h1 : (dgOf l).proto = 1
  · exact read_icmp_ok b off len cap l w hA g hp h1 h
  · exact absurd h (by unfold rsOf; rw [if_neg h17, if_neg h6, if_neg h1]; decide)
end Go.Proofs.Ytdejjokgchbgnaa
