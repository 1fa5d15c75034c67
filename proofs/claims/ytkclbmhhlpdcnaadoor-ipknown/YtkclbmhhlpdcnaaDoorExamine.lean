/- The contract of examine. -/
import Derived.Test.YtkclbmhhlpdcnaaDoorIpSmall
set_option maxRecDepth 100000
namespace Go.Proofs.YtkclbmhhlpdcnaaDoor
open Go.RowKit

set_option maxHeartbeats 2000000 in
theorem examine_any (p : Dg) (ao ab : Option Addr) (co cb : Nat) (w : World) (ho : p.opts.length ≤ 140737488351232) (hb : p.body.length ≤ 140737488351232) :
    Calls Tryd.prog 13 #[ipV p (.slice ao p.opts.length co) (.slice ab p.body.length cb)] w fun e w' =>
      e = (if buildE p = 0 then .returned (.tuple #[]) else .panicked (chainOf (buildE p))) ∧ Below w.heap.size w w' := by
  obtain ⟨E, hE⟩ : ∃ E, E = buildE p := ⟨_, rfl⟩
  rw [← hE]
  unfold buildE at hE
  by_cases h1 : inB p.tos 255
  case neg =>
    rw [if_pos h1] at hE
    subst hE
    go_enter Tryd.func13, Tryd.ntmps13
    go_wp2_with (first | (go_at_call 24; refine (limit_in _ _ _ (by assumption)).mono ?_; rintro e w' ⟨rfl, rfl⟩) | (go_at_call 24; refine (limit_out _ _ _ (by assumption)).mono ?_; rintro e w' ⟨rfl, rfl⟩))
    exact ⟨rfl, rfl, below_alloc _ _⟩
  rw [if_neg (by simpa using h1)] at hE
  by_cases h2 : inB p.ttl 255
  case neg =>
    rw [if_pos h2] at hE
    subst hE
    go_enter Tryd.func13, Tryd.ntmps13
    go_wp2_with (first | (go_at_call 24; refine (limit_in _ _ _ (by assumption)).mono ?_; rintro e w' ⟨rfl, rfl⟩) | (go_at_call 24; refine (limit_out _ _ _ (by assumption)).mono ?_; rintro e w' ⟨rfl, rfl⟩))
    exact ⟨rfl, rfl, below_alloc _ _⟩
  rw [if_neg (by simpa using h2)] at hE
  by_cases h3 : inB p.proto 255
  case neg =>
    rw [if_pos h3] at hE
    subst hE
    go_enter Tryd.func13, Tryd.ntmps13
    go_wp2_with (first | (go_at_call 24; refine (limit_in _ _ _ (by assumption)).mono ?_; rintro e w' ⟨rfl, rfl⟩) | (go_at_call 24; refine (limit_out _ _ _ (by assumption)).mono ?_; rintro e w' ⟨rfl, rfl⟩))
    exact ⟨rfl, rfl, below_alloc _ _⟩
  rw [if_neg (by simpa using h3)] at hE
  by_cases h4 : inB p.id 65535
  case neg =>
    rw [if_pos h4] at hE
    subst hE
    go_enter Tryd.func13, Tryd.ntmps13
    go_wp2_with (first | (go_at_call 24; refine (limit_in _ _ _ (by assumption)).mono ?_; rintro e w' ⟨rfl, rfl⟩) | (go_at_call 24; refine (limit_out _ _ _ (by assumption)).mono ?_; rintro e w' ⟨rfl, rfl⟩))
    exact ⟨rfl, rfl, below_alloc _ _⟩
  rw [if_neg (by simpa using h4)] at hE
  by_cases h5 : inB p.off 8191
  case neg =>
    rw [if_pos h5] at hE
    subst hE
    go_enter Tryd.func13, Tryd.ntmps13
    go_wp2_with (first | (go_at_call 24; refine (limit_in _ _ _ (by assumption)).mono ?_; rintro e w' ⟨rfl, rfl⟩) | (go_at_call 24; refine (limit_out _ _ _ (by assumption)).mono ?_; rintro e w' ⟨rfl, rfl⟩))
    exact ⟨rfl, rfl, below_alloc _ _⟩
  rw [if_neg (by simpa using h5)] at hE
  by_cases h6' : 40 < p.opts.length
  case pos =>
    rw [if_pos h6'] at hE
    subst hE
    have h6 : ¬ inB (p.opts.length : Int) 40 := by unfold inB; omega
    go_enter Tryd.func13, Tryd.ntmps13
    go_wp2_with (first | (go_at_call 24; refine (limit_in _ _ _ (by assumption)).mono ?_; rintro e w' ⟨rfl, rfl⟩) | (go_at_call 24; refine (limit_out _ _ _ (by assumption)).mono ?_; rintro e w' ⟨rfl, rfl⟩))
    exact ⟨rfl, rfl, below_alloc _ _⟩
  rw [if_neg h6'] at hE
  have h6 : inB (p.opts.length : Int) 40 := by unfold inB; omega
  by_cases h7 : p.opts.length % 4 = 0
  case neg =>
    rw [if_pos h7] at hE
    subst hE
    go_enter Tryd.func13, Tryd.ntmps13
    go_wp2_with (first | (go_at_call 24; refine (limit_in _ _ _ (by assumption)).mono ?_; rintro e w' ⟨rfl, rfl⟩))
    refine (refuse_yes' _ _ _ (by rw [bne_iff_ne]; omega)).mono ?_
    rintro e w' ⟨rfl, rfl⟩
    go_wp2
    exact ⟨rfl, rfl, below_alloc _ _⟩
  rw [if_neg (by simpa using h7)] at hE
  have h7z : (((p.opts.length : Int) % 4) != 0) = false := by simp; omega
  by_cases h8 : 2048 < totalI p
  · rw [if_pos h8] at hE
    subst hE
    go_enter Tryd.func13, Tryd.ntmps13
    go_wp2_with (first | (go_at_call 24; refine (limit_in _ _ _ (by assumption)).mono ?_; rintro e w' ⟨rfl, rfl⟩) | (go_at_call 25; refine (refuse_no _ _).mono ?_; rintro e w' ⟨rfl, rfl⟩))
    refine (totalOf_any p ao ab co cb _ ho hb).mono ?_
    rintro e w' ⟨rfl, hbt⟩
    go_wp2_with fail
    refine (refuse_yes' _ _ _ (by simp)).mono ?_
    rintro e w' ⟨rfl, rfl⟩
    go_wp2
    exact ⟨rfl, rfl, below_trans (below_alloc _ _) hbt⟩
  · rw [if_neg h8] at hE
    subst hE
    go_enter Tryd.func13, Tryd.ntmps13
    go_wp2_with (first | (go_at_call 24; refine (limit_in _ _ _ (by assumption)).mono ?_; rintro e w' ⟨rfl, rfl⟩) | (go_at_call 25; refine (refuse_no _ _).mono ?_; rintro e w' ⟨rfl, rfl⟩))
    refine (totalOf_any p ao ab co cb _ ho hb).mono ?_
    rintro e w' ⟨rfl, hbt⟩
    go_wp2_with fail
    refine (refuse_no' _ _ _ (by simpa using h8)).mono ?_
    rintro e w' ⟨rfl, rfl⟩
    go_wp2
    go_end0
    exact ⟨rfl, below_trans (below_alloc _ _) hbt⟩

theorem examine_no (p : Dg) (ao ab : Option Addr) (co cb : Nat) (w : World) (ho : p.opts.length ≤ 140737488351232) (hb : p.body.length ≤ 140737488351232) (h : ¬ buildE p = 0) :
    Calls Tryd.prog 13 #[ipV p (.slice ao p.opts.length co) (.slice ab p.body.length cb)] w fun e w' => e = .panicked (chainOf (buildE p)) ∧ Below w.heap.size w w' := by
  have := examine_any p ao ab co cb w ho hb
  rw [if_neg h] at this
  exact this

theorem examine_ok (p : Dg) (ao ab : Option Addr) (co cb : Nat) (w : World) (ho : p.opts.length ≤ 140737488351232) (hb : p.body.length ≤ 140737488351232) (h : buildE p = 0) :
    Calls Tryd.prog 13 #[ipV p (.slice ao p.opts.length co) (.slice ab p.body.length cb)] w fun e w' => e = .returned (.tuple #[]) ∧ Below w.heap.size w w' := by
  have := examine_any p ao ab co cb w ho hb
  rw [if_pos h] at this
  exact this
end Go.Proofs.YtkclbmhhlpdcnaaDoor
