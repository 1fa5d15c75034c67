/- The contract of Build in the document's own answer, where something may not be. -/
import Derived.Test.YtdejjokgchbgnaaRbuild
import Derived.Test.YtdejjokgchbgnaaRbuildMath
set_option maxRecDepth 100000
namespace Go.Proofs.Ytdejjokgchbgnaa
open Go.RowKit

set_option maxRecDepth 100000 in
set_option maxHeartbeats 1000000 in
theorem rbuild_tos (p : Dg) (ao ab : Option Addr) (co cb : Nat) (w : World) (_ho : p.opts.length ≤ 5000) (_hb : p.body.length ≤ 5000) (h : ¬ inB p.tos 255) :
    Calls Try.prog 11 #[ipV p (.slice ao p.opts.length co) (.slice ab p.body.length cb)] w fun e w' => e = .returned (.tuple #[.slice none 0 0, .int .i64 1]) ∧ Below w.heap.size w w' := by
  have g0 : inBb p.tos 255 = false := decide_eq_false h
  go_enter Try.func11, Try.ntmps11
  go_wp2_with (first | (go_at_call 24; refine (in_any _ _ _).mono ?_; rintro e w' ⟨rfl, rfl⟩))
  go_ret2
  exact ⟨rfl, below_alloc _ _⟩

set_option maxRecDepth 100000 in
set_option maxHeartbeats 1000000 in
theorem rbuild_ttl (p : Dg) (ao ab : Option Addr) (co cb : Nat) (w : World) (_ho : p.opts.length ≤ 5000) (_hb : p.body.length ≤ 5000) (h0 : inB p.tos 255) (h : ¬ inB p.ttl 255) :
    Calls Try.prog 11 #[ipV p (.slice ao p.opts.length co) (.slice ab p.body.length cb)] w fun e w' => e = .returned (.tuple #[.slice none 0 0, .int .i64 1]) ∧ Below w.heap.size w w' := by
  have g0 : inBb p.tos 255 = true := decide_eq_true h0
  have g1 : inBb p.ttl 255 = false := decide_eq_false h
  go_enter Try.func11, Try.ntmps11
  go_wp2_with (first | (go_at_call 24; refine (in_any _ _ _).mono ?_; rintro e w' ⟨rfl, rfl⟩))
  go_ret2
  exact ⟨rfl, below_alloc _ _⟩

set_option maxRecDepth 100000 in
set_option maxHeartbeats 1000000 in
theorem rbuild_proto (p : Dg) (ao ab : Option Addr) (co cb : Nat) (w : World) (_ho : p.opts.length ≤ 5000) (_hb : p.body.length ≤ 5000) (h0 : inB p.tos 255) (h1 : inB p.ttl 255) (h : ¬ inB p.proto 255) :
    Calls Try.prog 11 #[ipV p (.slice ao p.opts.length co) (.slice ab p.body.length cb)] w fun e w' => e = .returned (.tuple #[.slice none 0 0, .int .i64 1]) ∧ Below w.heap.size w w' := by
  have g0 : inBb p.tos 255 = true := decide_eq_true h0
  have g1 : inBb p.ttl 255 = true := decide_eq_true h1
  have g2 : inBb p.proto 255 = false := decide_eq_false h
  go_enter Try.func11, Try.ntmps11
  go_wp2_with (first | (go_at_call 24; refine (in_any _ _ _).mono ?_; rintro e w' ⟨rfl, rfl⟩))
  go_ret2
  exact ⟨rfl, below_alloc _ _⟩

set_option maxRecDepth 100000 in
set_option maxHeartbeats 1000000 in
theorem rbuild_id (p : Dg) (ao ab : Option Addr) (co cb : Nat) (w : World) (_ho : p.opts.length ≤ 5000) (_hb : p.body.length ≤ 5000) (h0 : inB p.tos 255) (h1 : inB p.ttl 255) (h2 : inB p.proto 255) (h : ¬ inB p.id 65535) :
    Calls Try.prog 11 #[ipV p (.slice ao p.opts.length co) (.slice ab p.body.length cb)] w fun e w' => e = .returned (.tuple #[.slice none 0 0, .int .i64 1]) ∧ Below w.heap.size w w' := by
  have g0 : inBb p.tos 255 = true := decide_eq_true h0
  have g1 : inBb p.ttl 255 = true := decide_eq_true h1
  have g2 : inBb p.proto 255 = true := decide_eq_true h2
  have g3 : inBb p.id 65535 = false := decide_eq_false h
  go_enter Try.func11, Try.ntmps11
  go_wp2_with (first | (go_at_call 24; refine (in_any _ _ _).mono ?_; rintro e w' ⟨rfl, rfl⟩))
  go_ret2
  exact ⟨rfl, below_alloc _ _⟩

set_option maxRecDepth 100000 in
set_option maxHeartbeats 1000000 in
theorem rbuild_off (p : Dg) (ao ab : Option Addr) (co cb : Nat) (w : World) (_ho : p.opts.length ≤ 5000) (_hb : p.body.length ≤ 5000) (h0 : inB p.tos 255) (h1 : inB p.ttl 255) (h2 : inB p.proto 255) (h3 : inB p.id 65535) (h : ¬ inB p.off 8191) :
    Calls Try.prog 11 #[ipV p (.slice ao p.opts.length co) (.slice ab p.body.length cb)] w fun e w' => e = .returned (.tuple #[.slice none 0 0, .int .i64 1]) ∧ Below w.heap.size w w' := by
  have g0 : inBb p.tos 255 = true := decide_eq_true h0
  have g1 : inBb p.ttl 255 = true := decide_eq_true h1
  have g2 : inBb p.proto 255 = true := decide_eq_true h2
  have g3 : inBb p.id 65535 = true := decide_eq_true h3
  have g4 : inBb p.off 8191 = false := decide_eq_false h
  go_enter Try.func11, Try.ntmps11
  go_wp2_with (first | (go_at_call 24; refine (in_any _ _ _).mono ?_; rintro e w' ⟨rfl, rfl⟩))
  go_ret2
  exact ⟨rfl, below_alloc _ _⟩

set_option maxRecDepth 100000 in
set_option maxHeartbeats 1000000 in
theorem rbuild_o40 (p : Dg) (ao ab : Option Addr) (co cb : Nat) (w : World) (_ho : p.opts.length ≤ 5000) (_hb : p.body.length ≤ 5000) (h0 : inB p.tos 255) (h1 : inB p.ttl 255) (h2 : inB p.proto 255) (h3 : inB p.id 65535) (h4 : inB p.off 8191) (h : 40 < p.opts.length) :
    Calls Try.prog 11 #[ipV p (.slice ao p.opts.length co) (.slice ab p.body.length cb)] w fun e w' => e = .returned (.tuple #[.slice none 0 0, .int .i64 1]) ∧ Below w.heap.size w w' := by
  have g0 : inBb p.tos 255 = true := decide_eq_true h0
  have g1 : inBb p.ttl 255 = true := decide_eq_true h1
  have g2 : inBb p.proto 255 = true := decide_eq_true h2
  have g3 : inBb p.id 65535 = true := decide_eq_true h3
  have g4 : inBb p.off 8191 = true := decide_eq_true h4
  have h' : (40 : Int) < (p.opts.length : Int) := by omega
  go_enter Try.func11, Try.ntmps11
  go_wp2_with (first | (go_at_call 24; refine (in_any _ _ _).mono ?_; rintro e w' ⟨rfl, rfl⟩))
  go_ret2
  exact ⟨rfl, below_alloc _ _⟩

set_option maxRecDepth 100000 in
set_option maxHeartbeats 1000000 in
theorem rbuild_o4 (p : Dg) (ao ab : Option Addr) (co cb : Nat) (w : World) (_ho : p.opts.length ≤ 5000) (_hb : p.body.length ≤ 5000) (h0 : inB p.tos 255) (h1 : inB p.ttl 255) (h2 : inB p.proto 255) (h3 : inB p.id 65535) (h4 : inB p.off 8191) (h5 : p.opts.length ≤ 40) (h : ¬ p.opts.length % 4 = 0) :
    Calls Try.prog 11 #[ipV p (.slice ao p.opts.length co) (.slice ab p.body.length cb)] w fun e w' => e = .returned (.tuple #[.slice none 0 0, .int .i64 1]) ∧ Below w.heap.size w w' := by
  have g0 : inBb p.tos 255 = true := decide_eq_true h0
  have g1 : inBb p.ttl 255 = true := decide_eq_true h1
  have g2 : inBb p.proto 255 = true := decide_eq_true h2
  have g3 : inBb p.id 65535 = true := decide_eq_true h3
  have g4 : inBb p.off 8191 = true := decide_eq_true h4
  have k5 : ¬ (40 : Int) < (p.opts.length : Int) := by omega
  have h' : (((p.opts.length : Int) % 4) != 0) = true := by rw [bne_iff_ne]; omega
  go_enter Try.func11, Try.ntmps11
  go_wp2_with (first | (go_at_call 24; refine (in_any _ _ _).mono ?_; rintro e w' ⟨rfl, rfl⟩))
  go_ret2
  exact ⟨rfl, below_alloc _ _⟩

set_option maxRecDepth 100000 in
set_option maxHeartbeats 1000000 in
theorem rbuild_long (p : Dg) (ao ab : Option Addr) (co cb : Nat) (w : World) (_ho : p.opts.length ≤ 5000) (_hb : p.body.length ≤ 5000) (h0 : inB p.tos 255) (h1 : inB p.ttl 255) (h2 : inB p.proto 255) (h3 : inB p.id 65535) (h4 : inB p.off 8191) (h5 : p.opts.length ≤ 40) (h6 : p.opts.length % 4 = 0) (h : 2048 < totalI p) :
    Calls Try.prog 11 #[ipV p (.slice ao p.opts.length co) (.slice ab p.body.length cb)] w fun e w' => e = .returned (.tuple #[.slice none 0 0, .int .i64 3]) ∧ Below w.heap.size w w' := by
  have g0 : inBb p.tos 255 = true := decide_eq_true h0
  have g1 : inBb p.ttl 255 = true := decide_eq_true h1
  have g2 : inBb p.proto 255 = true := decide_eq_true h2
  have g3 : inBb p.id 65535 = true := decide_eq_true h3
  have g4 : inBb p.off 8191 = true := decide_eq_true h4
  have k5 : ¬ (40 : Int) < (p.opts.length : Int) := by omega
  have k6 : (((p.opts.length : Int) % 4) != 0) = false := by simp; omega
  have h' : (2048 : Int) - (20 + (p.opts.length : Int)) < (p.body.length : Int) := by unfold totalI at h; omega
  go_enter Try.func11, Try.ntmps11
  go_wp2_with (first | (go_at_call 24; refine (in_any _ _ _).mono ?_; rintro e w' ⟨rfl, rfl⟩))
  go_ret2
  exact ⟨rfl, below_alloc _ _⟩

theorem rbuild_no (p : Dg) (ao ab : Option Addr) (co cb : Nat) (w : World) (ho : p.opts.length ≤ 5000) (hb : p.body.length ≤ 5000) (h : ¬ buildE p = 0) :
    Calls Try.prog 11 #[ipV p (.slice ao p.opts.length co) (.slice ab p.body.length cb)] w fun e w' => e = .returned (.tuple #[.slice none 0 0, .int .i64 (buildE p)]) ∧ Below w.heap.size w w' := by
  obtain ⟨E, hE⟩ : ∃ E, E = buildE p := ⟨_, rfl⟩
  rw [← hE] at h ⊢
  unfold buildE at hE
  by_cases h0 : inB p.tos 255
  case neg => rw [if_pos h0] at hE; subst hE; exact rbuild_tos p ao ab co cb w ho hb h0
  rw [if_neg (by simpa using h0)] at hE
  by_cases h1 : inB p.ttl 255
  case neg => rw [if_pos h1] at hE; subst hE; exact rbuild_ttl p ao ab co cb w ho hb h0 h1
  rw [if_neg (by simpa using h1)] at hE
  by_cases h2 : inB p.proto 255
  case neg => rw [if_pos h2] at hE; subst hE; exact rbuild_proto p ao ab co cb w ho hb h0 h1 h2
  rw [if_neg (by simpa using h2)] at hE
  by_cases h3 : inB p.id 65535
  case neg => rw [if_pos h3] at hE; subst hE; exact rbuild_id p ao ab co cb w ho hb h0 h1 h2 h3
  rw [if_neg (by simpa using h3)] at hE
  by_cases h4 : inB p.off 8191
  case neg => rw [if_pos h4] at hE; subst hE; exact rbuild_off p ao ab co cb w ho hb h0 h1 h2 h3 h4
  rw [if_neg (by simpa using h4)] at hE
  by_cases h5 : 40 < p.opts.length
  · rw [if_pos h5] at hE; subst hE; exact rbuild_o40 p ao ab co cb w ho hb h0 h1 h2 h3 h4 h5
  rw [if_neg h5] at hE
  by_cases h6 : p.opts.length % 4 = 0
  case neg => rw [if_pos h6] at hE; subst hE; exact rbuild_o4 p ao ab co cb w ho hb h0 h1 h2 h3 h4 (by omega) h6
  rw [if_neg (by simpa using h6)] at hE
  by_cases h7 : 2048 < totalI p
  · rw [if_pos h7] at hE; subst hE; exact rbuild_long p ao ab co cb w ho hb h0 h1 h2 h3 h4 (by omega) h6 h7
  rw [if_neg h7] at hE
  exact absurd hE h
end Go.Proofs.Ytdejjokgchbgnaa
