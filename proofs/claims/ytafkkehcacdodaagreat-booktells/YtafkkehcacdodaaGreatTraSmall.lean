/- Small functions of trace and of the document: shut, ahead, end; fair, subs, Same; open, At, meet. -/
import Derived.Test.YtafkkehcacdodaaGreatM18
import Derived.Test.YtafkkehcacdodaaGreatTraKey
import Derived.BigQuiet
set_option maxRecDepth 100000
namespace Go.Proofs.YtafkkehcacdodaaGreat
open Go.RowKit

set_option maxHeartbeats 1000000 in
theorem shut_any (s : Sp) (t : Int) (w : World) : Calls Tryz.prog 60 #[spV s, .int .i64 t] w fun e w' => e = .returned (spV (shutS s t)) ∧ Below w.heap.size w w' := by
  obtain ⟨a0, a1, a2, a3, a4, a5⟩ := s
  go_enter Tryz.func60, Tryz.ntmps60
  go_wp2
  all_goals
    refine bodyPost_ret (v := spV (shutS ⟨a0, a1, a2, a3, a4, a5⟩ t)) ?_ rfl ⟨rfl, ?_⟩
    · simp [results, Tryz.results60, go_sem, shutS]
      omega
    · exact (((Below.refl _ w).alloc (Nat.le_refl _) _).alloc (by simp) _)

theorem ahead_any (t : Int) (w : World) (h0 : -9223372036854775808 ≤ t) (h1 : t ≤ 9223372036854775807) : Calls Tryz.prog 61 #[.int .i64 t] w fun e w' => e = .returned (.int .i64 (aheadT t)) ∧ w' = w := by
  go_enter Tryz.func61, Tryz.ntmps61
  go_wp2
  all_goals
    go_ret
    exact ⟨by unfold aheadT; simp; omega, rfl⟩

theorem end_any (s : Sp) (w : World) : Calls Tryz.prog 91 #[spV s] w fun e w' => e = .returned (.int .i64 (endS s)) ∧ Below w.heap.size w w' := by
  obtain ⟨a0, a1, a2, a3, a4, a5⟩ := s
  cases a5
  · go_enter Tryz.func91, Tryz.ntmps91
    go_wp2
    go_ret
    exact ⟨rfl, below_alloc w _⟩
  · go_enter Tryz.func91, Tryz.ntmps91
    go_wp2
    go_ret
    exact ⟨rfl, below_alloc w _⟩

/-- The document's open. -/
def openN (o : Option Nat) : Int := match o with | some i => i | none => -1

set_option maxHeartbeats 1000000 in
theorem open_any (v : Value) (B O : Nat) (l : List Sp) (a k : Int) (w : World) (h : Sps w v B O l) (hl : l.length ≤ 100000) :
    Calls Tryz.prog 78 #[v, .int .u32 a, .int .i64 k] w fun e w' => e = .returned (.int .i64 (openN (openI l a k))) ∧ w' = w := by
  obtain ⟨ad, cap, rfl, h2, h3, h4, h5⟩ := h
  have H5 : Hid (∀ i s, l[i]? = some s → SpAt w B (O + i * 6) s) := h5
  clear h5
  go_enter Tryz.func78, Tryz.ntmps78
  go_wp2
  go_loopg [7] l.length (fun gk i wr => ∃ t : Nat, t + gk = l.length ∧ i = .int .i64 (t : Int) ∧ Hid (openI l a k = (openI (l.drop t) a k).map (· + t)) ∧ w = wr)
  case atStart => exact ⟨0, by omega, rfl, by show _ = _; simp, rfl⟩
  case round =>
    obtain ⟨t, ht, rfl, hrel, rfl⟩ := hrel
    by_cases hlt : t < l.length
    · obtain ⟨s, hs⟩ : ∃ s, l[t]? = some s := ⟨_, List.getElem?_eq_getElem hlt⟩
      obtain rfl : ad = some ⟨B, O, none⟩ := by
        rcases h4 with h4 | h4
        · exact h4
        · subst h4; simp at hlt
      obtain ⟨c0, c1, c2, c3, c4, c5⟩ := H5.out t s hs
      have hd : Hid (l.drop t = s :: l.drop (t + 1)) := by
        show _ = _
        rw [List.drop_eq_getElem_cons hlt]
        congr 1
        rw [List.getElem?_eq_getElem hlt] at hs
        exact Option.some.inj hs
      have hI : (t : Int) < (l.length : Int) := by omega
      obtain ⟨s0, s1, s2, s3, s4, s5⟩ := s
      have HS : Hid (openI l a k = if (s5 && (decide (s1 = a) && decide (s2 = k))) = true then some t else (openI (l.drop (t + 1)) a k).map (· + (t + 1))) := by
        show _ = _
        rw [hrel.out, hd.out]
        have e1 : openI (⟨s0, s1, s2, s3, s4, s5⟩ :: l.drop (t + 1)) a k = if (s5 && (decide (s1 = a) && decide (s2 = k))) = true then some 0 else (openI (l.drop (t + 1)) a k).map (· + 1) := List.findIdx?_cons
        rw [e1]
        generalize openI (l.drop (t + 1)) a k = q
        split
        · simp
        · cases q with
          | none => rfl
          | some q => simp; omega
      clear hrel hs hd
      cases s5
      · go_wp2
        go_roundg (l.length - (t + 1))
        case rel => exact ⟨t + 1, by omega, by go_num, by show _ = _; rw [HS.out]; simp, rfl⟩
        case measure => omega
      · by_cases h1 : s1 = a
        · by_cases h2 : s2 = k
          · go_wp2
            go_ret
            exact ⟨by rw [HS.out]; simp [h1, h2, openN], rfl⟩
          · go_wp2
            go_roundg (l.length - (t + 1))
            case rel => exact ⟨t + 1, by omega, by go_num, by show _ = _; rw [HS.out]; simp [h2], rfl⟩
            case measure => omega
        · go_wp2
          go_roundg (l.length - (t + 1))
          case rel => exact ⟨t + 1, by omega, by go_num, by show _ = _; rw [HS.out]; simp [h1], rfl⟩
          case measure => omega
    · have hte : t = l.length := by omega
      subst hte
      have HS : Hid (openI l a k = none) := by show _ = _; rw [hrel.out]; simp [openI]
      clear hrel
      go_wp2
      go_ret
      exact ⟨by rw [HS.out]; rfl, rfl⟩

end Go.Proofs.YtafkkehcacdodaaGreat
