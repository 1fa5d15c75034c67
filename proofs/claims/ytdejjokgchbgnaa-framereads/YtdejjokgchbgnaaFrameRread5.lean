/- The contract of Read in the document's own answer, whole. -/
import Derived.Test.YtdejjokgchbgnaaFrameRread2
import Derived.Test.YtdejjokgchbgnaaFrameRread3
import Derived.Test.YtdejjokgchbgnaaFrameRread4
import Derived.Test.YtdejjokgchbgnaaFrameRread6
set_option maxRecDepth 100000
namespace Go.Proofs.Ytdejjokgchbgnaa
open Go.RowKit

theorem rread_icmp_no (b off len cap : Nat) (l : List Int) (w : World) (hA : At w b off len cap l) (g : Good l) (hp : partB (dgOf l) = false) (h1 : (dgOf l).proto = 1) (h : ¬ (rsOf (dgOf l)).why = 0) :
    Calls Try.prog 13 #[.slice (some ⟨b, off, none⟩) len cap] w fun e w' => e = .returned (.tuple #[.agg zeroFC, .int .i64 (rsOf (dgOf l)).why]) ∧ Below w.heap.size w w' := by
  have h17 : ¬ (dgOf l).proto = 17 := by omega
  have h6 : ¬ (dgOf l).proto = 6 := by omega
  have hr : rsOf (dgOf l) = rsW (dgOf l) := by unfold rsOf; rw [if_neg h17, if_neg h6, if_pos h1]
  have hl := body_len l g
  refine (rread_1 b off len cap l w hA g hp h1 (fun _ _ _ _ => zeroFC) (rsOf (dgOf l)).why (fun _ _ _ _ => rfl) (fun _ _ _ _ => oneZ) ?_).mono ?_
  · intro a1 k1 a2 k2 b' off' C W HC ha hA'
    have key : Calls Try.prog 32 #[.agg C] W fun e w' => e = .returned (.tuple #[.agg zeroFC, .int .i64 (rsOf (dgOf l)).why]) ∧ Below W.heap.size W w' := by
      rw [hr] at h ⊢
      by_cases hu : parseW (dgOf l).body = 0
      · have g' := wgood_of _ hu
        have e : rsW (dgOf l) = rsK (dgOf l).body := if_pos hu
        rw [e] at h ⊢
        rcases ha with rfl | ha
        · by_cases k0 : kindW (b1 (dgOf l).body 0) (b1 (dgOf l).body 1) = 0
          · rw [show rsK (dgOf l).body = noRs 4 from if_pos k0]
            exact rw_none (dgOf l) a1 _ k1 b' off' _ k2 C W HC hA' hl g' k0
          by_cases k5 : kindW (b1 (dgOf l).body 0) (b1 (dgOf l).body 1) = 5
          · have e5 : rsK (dgOf l).body = rsF ((dgOf l).body.drop 8) := by unfold rsK; rw [if_neg k0, if_pos k5]
            rw [e5] at h ⊢
            rcases hq : quoteO ((dgOf l).body.drop 8) with _ | x
            · rw [show rsF ((dgOf l).body.drop 8) = noRs 1 by unfold rsF; rw [hq]]
              exact rw_fno (dgOf l) a1 _ k1 b' off' _ k2 C W HC hA' hl g' k5 hq
            · exact absurd (by unfold rsF; rw [hq]) h
          · exact absurd (by unfold rsK; rw [if_neg k0, if_neg k5]) h
        · have := g'.a; rw [ha] at this; simp at this
      · rw [show rsW (dgOf l) = noRs (whyI (parseW (dgOf l).body)) from if_neg hu]
        exact rw_no (dgOf l) a1 a2 _ k1 b' off' _ k2 C W HC ha hA' hl hu
    refine key.mono ?_
    rintro e w' ⟨rfl, hb⟩
    exact ⟨zeroFC, rfl, (rfl : _ = _), hb⟩
  · rintro e w' ⟨_, _, _, _, C', rfl, HC', -, -, hb⟩
    rw [HC'.out]
    exact ⟨rfl, hb⟩

theorem rread_icmp_ok (b off len cap : Nat) (l : List Int) (w : World) (hA : At w b off len cap l) (g : Good l) (hp : partB (dgOf l) = false) (h1 : (dgOf l).proto = 1) (h : (rsOf (dgOf l)).why = 0) :
    Calls Try.prog 13 #[.slice (some ⟨b, off, none⟩) len cap] w fun e w' =>
      ∃ a1 k1 a2 k2 C', e = .returned (.tuple #[.agg C', .int .i64 0]) ∧ Hid (C' = frC (dgOf l) (.slice a1 (dgOf l).opts.length k1) (.slice a2 (dgOf l).body.length k2) (rsOf (dgOf l))) ∧ Bts w' (.slice a1 (dgOf l).opts.length k1) (dgOf l).opts ∧ Bts w' (.slice a2 (dgOf l).body.length k2) (dgOf l).body ∧ Below w.heap.size w w' := by
  have h17 : ¬ (dgOf l).proto = 17 := by omega
  have h6 : ¬ (dgOf l).proto = 6 := by omega
  have hr : rsOf (dgOf l) = rsW (dgOf l) := by unfold rsOf; rw [if_neg h17, if_neg h6, if_pos h1]
  have hl := body_len l g
  refine rread_1 b off len cap l w hA g hp h1 (fun a1 k1 a2 k2 => frC (dgOf l) (.slice a1 (dgOf l).opts.length k1) (.slice a2 (dgOf l).body.length k2) (rsOf (dgOf l))) 0 (fun _ _ _ _ => rfl) (fun _ _ _ _ => oneFr _ _ _ _ _ _ _ _) ?_
  intro a1 k1 a2 k2 b' off' C W HC ha hA'
  rw [hr] at h ⊢
  by_cases hu : parseW (dgOf l).body = 0
  · have g' := wgood_of _ hu
    have e : rsW (dgOf l) = rsK (dgOf l).body := if_pos hu
    rw [e] at h ⊢
    rcases ha with rfl | ha
    · by_cases k0 : kindW (b1 (dgOf l).body 0) (b1 (dgOf l).body 1) = 0
      · rw [show rsK (dgOf l).body = noRs 4 from if_pos k0] at h
        exact absurd h (by decide)
      by_cases k5 : kindW (b1 (dgOf l).body 0) (b1 (dgOf l).body 1) = 5
      · have e5 : rsK (dgOf l).body = rsF ((dgOf l).body.drop 8) := by unfold rsK; rw [if_neg k0, if_pos k5]
        rw [e5] at h ⊢
        rcases hq : quoteO ((dgOf l).body.drop 8) with _ | x
        · rw [show rsF ((dgOf l).body.drop 8) = noRs 1 by unfold rsF; rw [hq]] at h
          exact absurd h (by decide)
        · rw [show rsF ((dgOf l).body.drop 8) = ⟨0, 5, 0, 0, 0, x⟩ by unfold rsF; rw [hq]]
          exact rw_fok (dgOf l) a1 _ k1 b' off' _ k2 C W HC hA' hl x g' k5 hq
      · rw [show rsK (dgOf l).body = ⟨0, kindW (b1 (dgOf l).body 0) (b1 (dgOf l).body 1), w2 (dgOf l).body 4, w2 (dgOf l).body 4, 0, Inn.zero⟩ by unfold rsK; rw [if_neg k0, if_neg k5]]
        exact rw_echo (dgOf l) a1 _ k1 b' off' _ k2 C W HC hA' hl g' k0 k5
    · have := g'.a; rw [ha] at this; simp at this
  · rw [show rsW (dgOf l) = noRs (whyI (parseW (dgOf l).body)) from if_neg hu] at h
    exact absurd h (whyI_pos _)

theorem rread_no (a : Option Addr) (b off len cap : Nat) (l : List Int) (w : World) (ha : a = some ⟨b, off, none⟩ ∨ l = []) (hA : At w b off len cap l) (h : ¬ (readR l).why = 0) :
    Calls Try.prog 13 #[.slice a len cap] w fun e w' => e = .returned (.tuple #[.agg zeroFC, .int .i64 (readR l).why]) ∧ Below w.heap.size w w' := by
  by_cases hE : parseE l = 0
  · have g := good_of l hE
    have hl := g.b
    rcases ha with rfl | rfl
    case inr => simp at hl
    by_cases hp : partB (dgOf l) = true
    · rw [show readR l = noRs 3 by unfold readR; rw [if_pos hE, if_pos hp]]
      exact rread_part b off len cap l w hA g hp
    · have hr : readR l = rsOf (dgOf l) := by unfold readR; rw [if_pos hE, if_neg hp]
      have hp' : partB (dgOf l) = false := by simpa using hp
      rw [hr] at h ⊢
      by_cases h17 : (dgOf l).proto = 17
      · by_cases hu : parseU (dgOf l).src (dgOf l).dst (dgOf l).body = 0
        · exact absurd (by unfold rsOf rsU; rw [if_pos h17, if_pos hu]) h
        · rw [show rsOf (dgOf l) = noRs (whyI (parseU (dgOf l).src (dgOf l).dst (dgOf l).body)) by unfold rsOf rsU; rw [if_pos h17, if_neg hu]]
          exact rread_17_no b off len cap l w hA g hp' h17 hu
      by_cases h6 : (dgOf l).proto = 6
      · by_cases hu : parseT (dgOf l).src (dgOf l).dst (dgOf l).body = 0
        · exact absurd (by unfold rsOf rsT; rw [if_neg h17, if_pos h6, if_pos hu]) h
        · rw [show rsOf (dgOf l) = noRs (whyI (parseT (dgOf l).src (dgOf l).dst (dgOf l).body)) by unfold rsOf rsT; rw [if_neg h17, if_pos h6, if_neg hu]]
          exact rread_6_no b off len cap l w hA g hp' h6 hu
      by_cases h1 : (dgOf l).proto = 1
      · exact rread_icmp_no b off len cap l w hA g hp' h1 h
      · rw [show rsOf (dgOf l) = noRs 4 by unfold rsOf; rw [if_neg h17, if_neg h6, if_neg h1]]
        exact rread_oth b off len cap l w hA g hp' ⟨h17, h6, h1⟩
  · rw [show readR l = noRs (whyI (parseE l)) from if_neg hE]
    exact rread_err a b off len cap l w ha hA hE

theorem rread_ok (b off len cap : Nat) (l : List Int) (w : World) (hA : At w b off len cap l) (h : (readR l).why = 0) :
    Calls Try.prog 13 #[.slice (some ⟨b, off, none⟩) len cap] w fun e w' =>
      ∃ a1 k1 a2 k2 C', e = .returned (.tuple #[.agg C', .int .i64 0]) ∧ Hid (C' = frC (dgOf l) (.slice a1 (dgOf l).opts.length k1) (.slice a2 (dgOf l).body.length k2) (readR l)) ∧ Bts w' (.slice a1 (dgOf l).opts.length k1) (dgOf l).opts ∧ Bts w' (.slice a2 (dgOf l).body.length k2) (dgOf l).body ∧ Below w.heap.size w w' := by
  obtain ⟨hE, hp, hr⟩ := readR_ok l h
  have g := good_of l hE
  rw [hr] at h ⊢
  by_cases h17 : (dgOf l).proto = 17
  · by_cases hu : parseU (dgOf l).src (dgOf l).dst (dgOf l).body = 0
    · rw [show rsOf (dgOf l) = ⟨0, 1, w2 (dgOf l).body 0, w2 (dgOf l).body 2, 0, Inn.zero⟩ by unfold rsOf rsU; rw [if_pos h17, if_pos hu]]
      exact rread_17_ok b off len cap l w hA g hp h17 (ugood_of _ _ _ hu)
    · exact absurd h (by unfold rsOf rsU; rw [if_pos h17, if_neg hu]; exact whyI_pos _)
  by_cases h6 : (dgOf l).proto = 6
  · by_cases hu : parseT (dgOf l).src (dgOf l).dst (dgOf l).body = 0
    · rw [show rsOf (dgOf l) = ⟨0, 2, w2 (dgOf l).body 0, w2 (dgOf l).body 2, b1 (dgOf l).body 13, Inn.zero⟩ by unfold rsOf rsT; rw [if_neg h17, if_pos h6, if_pos hu]]
      exact rread_6_ok b off len cap l w hA g hp h6 (tgood_of _ _ _ hu)
    · exact absurd h (by unfold rsOf rsT; rw [if_neg h17, if_pos h6, if_neg hu]; exact whyI_pos _)
  by_cases h1 : (dgOf l).proto = 1
  · exact rread_icmp_ok b off len cap l w hA g hp h1 h
  · exact absurd h (by unfold rsOf; rw [if_neg h17, if_neg h6, if_neg h1]; decide)
end Go.Proofs.Ytdejjokgchbgnaa
