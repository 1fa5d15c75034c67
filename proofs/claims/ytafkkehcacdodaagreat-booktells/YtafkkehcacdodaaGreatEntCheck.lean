/- The contracts of may and Check, and of Check in the document's own answer. -/
import Derived.Test.YtafkkehcacdodaaGreatEntSmall
set_option maxRecDepth 100000
namespace Go.Proofs.YtafkkehcacdodaaGreat
open Go.RowKit

theorem mayB_true {e : En} (h : e.May) : mayB e = true := decide_eq_true h
theorem mayB_false {e : En} (h : ¬ e.May) : mayB e = false := decide_eq_false h

set_option maxHeartbeats 1000000 in
theorem may_any (k t s a b : Int) (w : World) :
    Calls Tryz.prog 68 #[enV ⟨k, t, s, a, b⟩] w fun x w' => x = .returned (.bool (mayB ⟨k, t, s, a, b⟩)) ∧ Below w.heap.size w w' := by
  have hbl := below_alloc w (.cells (enC ⟨k, t, s, a, b⟩) 73)
  by_cases h0 : 0 ≤ t
  case neg =>
    have E : Hid (mayB ⟨k, t, s, a, b⟩ = false) := mayB_false (fun h => h0 h.time0)
    go_enter Tryz.func68, Tryz.ntmps68
    go_wp2
    go_ret
    exact ⟨ret_bool E.out.symm, hbl⟩
  by_cases h1 : t ≤ 1099511627776
  case neg =>
    have E : Hid (mayB ⟨k, t, s, a, b⟩ = false) := mayB_false (fun h => h1 h.time1)
    go_enter Tryz.func68, Tryz.ntmps68
    go_wp2
    go_ret
    exact ⟨ret_bool E.out.symm, hbl⟩
  by_cases hk : k = 1 ∨ k = 2 ∨ k = 3
  case neg =>
    have E : Hid (mayB ⟨k, t, s, a, b⟩ = false) := mayB_false (fun h => hk (by rcases h.kind with ⟨h, _⟩ | ⟨h, _⟩ | ⟨h, _⟩ <;> (dsimp only at h; omega)))
    have k1 : k ≠ 1 := by omega
    have k2 : k ≠ 2 := by omega
    have k3 : k ≠ 3 := by omega
    clear hk
    by_cases b0 : 0 ≤ b
    all_goals
      go_enter Tryz.func68, Tryz.ntmps68
      go_wp2
      go_ret
      exact ⟨ret_bool E.out.symm, hbl⟩
  rcases hk with rfl | rfl | rfl
  · by_cases hz : s = 0 ∧ a = 0 ∧ b = 0
    · obtain ⟨rfl, rfl, rfl⟩ := hz
      have E : Hid (mayB ⟨1, t, 0, 0, 0⟩ = true) := mayB_true ⟨h0, h1, .inl ⟨rfl, rfl, rfl, rfl⟩⟩
      go_enter Tryz.func68, Tryz.ntmps68
      go_wp2
      go_ret
      exact ⟨ret_bool E.out.symm, hbl⟩
    · have E : Hid (mayB ⟨1, t, s, a, b⟩ = false) := mayB_false (fun h => hz (by rcases h.kind with ⟨_, h⟩ | ⟨h, _⟩ | ⟨h, _⟩ <;> simp_all))
      by_cases s0 : s = 0
      · subst s0
        by_cases a0 : a = 0
        · subst a0
          have b0 : b ≠ 0 := fun h => hz ⟨rfl, rfl, h⟩
          clear hz
          by_cases b1 : 0 ≤ b
          all_goals
            go_enter Tryz.func68, Tryz.ntmps68
            go_wp2
            go_ret
            exact ⟨ret_bool E.out.symm, hbl⟩
        · clear hz
          by_cases b1 : 0 ≤ b
          all_goals
            go_enter Tryz.func68, Tryz.ntmps68
            go_wp2
            go_ret
            exact ⟨ret_bool E.out.symm, hbl⟩
      · clear hz
        by_cases b1 : 0 ≤ b
        all_goals
          go_enter Tryz.func68, Tryz.ntmps68
          go_wp2
          go_ret
          exact ⟨ret_bool E.out.symm, hbl⟩
  · by_cases b0 : 0 ≤ b
    · by_cases b1 : b ≤ 65535
      · have E : Hid (mayB ⟨2, t, s, a, b⟩ = true) := mayB_true ⟨h0, h1, .inr (.inl ⟨rfl, b0, b1⟩)⟩
        go_enter Tryz.func68, Tryz.ntmps68
        go_wp2
        go_ret
        exact ⟨ret_bool E.out.symm, hbl⟩
      · have E : Hid (mayB ⟨2, t, s, a, b⟩ = false) := mayB_false (fun h => b1 (by rcases h.kind with ⟨h, _⟩ | ⟨_, _, h⟩ | ⟨h, _⟩ <;> first | exact h | (dsimp only at h; omega)))
        go_enter Tryz.func68, Tryz.ntmps68
        go_wp2
        go_ret
        exact ⟨ret_bool E.out.symm, hbl⟩
    · have E : Hid (mayB ⟨2, t, s, a, b⟩ = false) := mayB_false (fun h => b0 (by rcases h.kind with ⟨h, _⟩ | ⟨_, h, _⟩ | ⟨h, _⟩ <;> first | exact h | (dsimp only at h; omega)))
      go_enter Tryz.func68, Tryz.ntmps68
      go_wp2
      go_ret
      exact ⟨ret_bool E.out.symm, hbl⟩
  · by_cases b0 : 0 ≤ b
    · by_cases b1 : b ≤ 65535
      · by_cases s0 : s = 0
        · subst s0
          have E : Hid (mayB ⟨3, t, 0, a, b⟩ = true) := mayB_true ⟨h0, h1, .inr (.inr ⟨rfl, b0, b1, rfl⟩)⟩
          go_enter Tryz.func68, Tryz.ntmps68
          go_wp2
          go_ret
          exact ⟨ret_bool E.out.symm, hbl⟩
        · have E : Hid (mayB ⟨3, t, s, a, b⟩ = false) := mayB_false (fun h => s0 (by rcases h.kind with ⟨h, _⟩ | ⟨h, _, _⟩ | ⟨_, _, _, h⟩ <;> first | exact h | (dsimp only at h; omega)))
          have s1 : (s == 0) = false := by simp [s0]
          go_enter Tryz.func68, Tryz.ntmps68
          go_wp2
          go_ret
          exact ⟨ret_bool E.out.symm, hbl⟩
      · have E : Hid (mayB ⟨3, t, s, a, b⟩ = false) := mayB_false (fun h => b1 (by rcases h.kind with ⟨h, _⟩ | ⟨h, _, _⟩ | ⟨_, _, h, _⟩ <;> first | exact h | (dsimp only at h; omega)))
        go_enter Tryz.func68, Tryz.ntmps68
        go_wp2
        go_ret
        exact ⟨ret_bool E.out.symm, hbl⟩
    · have E : Hid (mayB ⟨3, t, s, a, b⟩ = false) := mayB_false (fun h => b0 (by rcases h.kind with ⟨h, _⟩ | ⟨h, _, _⟩ | ⟨_, h, _, _⟩ <;> first | exact h | (dsimp only at h; omega)))
      go_enter Tryz.func68, Tryz.ntmps68
      go_wp2
      go_ret
      exact ⟨ret_bool E.out.symm, hbl⟩

set_option maxHeartbeats 400000 in
theorem echeck_any (e : En) (w : World) :
    Calls Tryz.prog 29 #[enV e] w fun x w' => x = .returned (.int .i64 (checkE e)) ∧ Below w.heap.size w w' := by
  obtain ⟨k, t, s, a, b⟩ := e
  unfold checkE
  have H := fun w => may_any k t s a b w
  cases hm : mayB ⟨k, t, s, a, b⟩
  all_goals
    rw [hm] at H
    go_enter Tryz.func29, Tryz.ntmps29
    go_wp2_with fail
    refine (H _).mono ?_
    rintro e w1 ⟨rfl, hb⟩
    go_wp2
    go_ret
    exact ⟨rfl, by first | exact hb | exact below_trans (below_alloc _ _) hb⟩

set_option maxHeartbeats 1000000 in
theorem rcheck_any (e : En) (w : World) :
    Calls Tryz.prog 85 #[enV e] w fun x w' => x = .returned (.int .i64 (checkE e)) ∧ Below w.heap.size w w' := by
  obtain ⟨k, t, s, a, b⟩ := e
  have hbl := below_alloc w (.cells (enC ⟨k, t, s, a, b⟩) 73)
  by_cases hm : En.May ⟨k, t, s, a, b⟩
  · have E : Hid (checkE ⟨k, t, s, a, b⟩ = 0) := by show checkE _ = 0; unfold checkE; rw [mayB_true hm]; rfl
    obtain ⟨h0, h1, h2⟩ := hm
    dsimp only at h0 h1 h2
    rcases h2 with ⟨rfl, rfl, rfl, rfl⟩ | ⟨rfl, b0, b1⟩ | ⟨rfl, b0, b1, rfl⟩
    all_goals
      go_enter Tryz.func85, Tryz.ntmps85
      go_wp2
      go_ret
      exact ⟨by rw [E.out]; rfl, hbl⟩
  · have E : Hid (checkE ⟨k, t, s, a, b⟩ = 1) := by show checkE _ = 1; unfold checkE; rw [mayB_false hm]; rfl
    have hn : ¬ ((0 ≤ t ∧ t ≤ 1099511627776) ∧ ((k = 1 ∧ s = 0 ∧ a = 0 ∧ b = 0) ∨ (k = 2 ∧ 0 ≤ b ∧ b ≤ 65535) ∨ (k = 3 ∧ 0 ≤ b ∧ b ≤ 65535 ∧ s = 0))) := fun h => hm ((may_iff _).2 h)
    clear hm
    by_cases h0 : 0 ≤ t
    case neg =>
      clear hn
      go_enter Tryz.func85, Tryz.ntmps85
      go_wp2
      go_ret
      exact ⟨by rw [E.out]; rfl, hbl⟩
    by_cases h1 : t ≤ 1099511627776
    case neg =>
      clear hn
      go_enter Tryz.func85, Tryz.ntmps85
      go_wp2
      go_ret
      exact ⟨by rw [E.out]; rfl, hbl⟩
    by_cases k1 : k = 1
    · subst k1
      by_cases s0 : s = 0
      · by_cases a0 : a = 0
        · have b0 : b ≠ 0 := by omega
          have b2 : (b == 0) = false := beq_false_of_ne b0
          clear b0
          clear hn
          subst s0 a0
          go_enter Tryz.func85, Tryz.ntmps85
          go_wp2
          go_ret
          exact ⟨by rw [E.out]; rfl, hbl⟩
        · clear hn
          subst s0
          go_enter Tryz.func85, Tryz.ntmps85
          go_wp2
          go_ret
          exact ⟨by rw [E.out]; rfl, hbl⟩
      · clear hn
        go_enter Tryz.func85, Tryz.ntmps85
        go_wp2
        go_ret
        exact ⟨by rw [E.out]; rfl, hbl⟩
    by_cases k2 : k = 2
    · subst k2
      by_cases b0 : 0 ≤ b
      · have b1 : ¬ b ≤ 65535 := by omega
        clear hn
        go_enter Tryz.func85, Tryz.ntmps85
        go_wp2
        go_ret
        exact ⟨by rw [E.out]; rfl, hbl⟩
      · clear hn
        go_enter Tryz.func85, Tryz.ntmps85
        go_wp2
        go_ret
        exact ⟨by rw [E.out]; rfl, hbl⟩
    by_cases k3 : k = 3
    · subst k3
      by_cases b0 : 0 ≤ b
      · by_cases b1 : b ≤ 65535
        · have s0 : s ≠ 0 := by omega
          have s2 : (s == 0) = false := beq_false_of_ne s0
          clear s0
          clear hn
          go_enter Tryz.func85, Tryz.ntmps85
          go_wp2
          go_ret
          exact ⟨by rw [E.out]; rfl, hbl⟩
        · clear hn
          go_enter Tryz.func85, Tryz.ntmps85
          go_wp2
          go_ret
          exact ⟨by rw [E.out]; rfl, hbl⟩
      · clear hn
        go_enter Tryz.func85, Tryz.ntmps85
        go_wp2
        go_ret
        exact ⟨by rw [E.out]; rfl, hbl⟩
    clear hn
    go_enter Tryz.func85, Tryz.ntmps85
    go_wp2
    go_ret
    exact ⟨by rw [E.out]; rfl, hbl⟩

end Go.Proofs.YtafkkehcacdodaaGreat
