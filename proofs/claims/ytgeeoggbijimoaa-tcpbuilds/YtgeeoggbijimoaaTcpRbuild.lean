/- The contract of BuildPiece, the document's own answer. -/
import Derived.Test.YtgeeoggbijimoaaTcpBuild2
import Derived.Test.YtgeeoggbijimoaaRin3
namespace Go.Proofs.Ytgeeoggbijimoaa
open Go.RowKit

set_option maxHeartbeats 2000000 in
theorem trbuild_ports (s d : Int) (p : Pc) (ao ad : Option Addr) (co cd : Nat) (w : World) (h : ¬ (inB p.src 65535 ∧ inB p.dst 65535 ∧ inB p.window 65535 ∧ inB p.urgent 65535 ∧ inB p.flags 255)) :
    Calls Try.prog 15 #[.int .u32 s, .int .u32 d, pcV p (.slice ao p.opts.length co) (.slice ad p.data.length cd)] w fun e w' => e = .returned (.tuple #[.slice none 0 0, .int .i64 1]) ∧ Below w.heap.size w w' := by
  by_cases h0 : inB p.src 65535
  case neg =>
    have g0 : inBb p.src 65535 = false := decide_eq_false h0
    clear h
    go_enter Try.func15, Try.ntmps15
    go_wp2_with (first | (go_at_call 31; refine (rin_any _ _ _).mono ?_; rintro e w' ⟨rfl, rfl⟩))
    go_ret2
    exact ⟨rfl, below_alloc _ _⟩
  by_cases h1 : inB p.dst 65535
  case neg =>
    have g0 : inBb p.src 65535 = true := decide_eq_true h0
    have g1 : inBb p.dst 65535 = false := decide_eq_false h1
    clear h
    go_enter Try.func15, Try.ntmps15
    go_wp2_with (first | (go_at_call 31; refine (rin_any _ _ _).mono ?_; rintro e w' ⟨rfl, rfl⟩))
    go_ret2
    exact ⟨rfl, below_alloc _ _⟩
  by_cases h2 : inB p.window 65535
  case neg =>
    have g0 : inBb p.src 65535 = true := decide_eq_true h0
    have g1 : inBb p.dst 65535 = true := decide_eq_true h1
    have g2 : inBb p.window 65535 = false := decide_eq_false h2
    clear h
    go_enter Try.func15, Try.ntmps15
    go_wp2_with (first | (go_at_call 31; refine (rin_any _ _ _).mono ?_; rintro e w' ⟨rfl, rfl⟩))
    go_ret2
    exact ⟨rfl, below_alloc _ _⟩
  by_cases h3 : inB p.urgent 65535
  case neg =>
    have g0 : inBb p.src 65535 = true := decide_eq_true h0
    have g1 : inBb p.dst 65535 = true := decide_eq_true h1
    have g2 : inBb p.window 65535 = true := decide_eq_true h2
    have g3 : inBb p.urgent 65535 = false := decide_eq_false h3
    clear h
    go_enter Try.func15, Try.ntmps15
    go_wp2_with (first | (go_at_call 31; refine (rin_any _ _ _).mono ?_; rintro e w' ⟨rfl, rfl⟩))
    go_ret2
    exact ⟨rfl, below_alloc _ _⟩
  by_cases h4 : inB p.flags 255
  case neg =>
    have g0 : inBb p.src 65535 = true := decide_eq_true h0
    have g1 : inBb p.dst 65535 = true := decide_eq_true h1
    have g2 : inBb p.window 65535 = true := decide_eq_true h2
    have g3 : inBb p.urgent 65535 = true := decide_eq_true h3
    have g4 : inBb p.flags 255 = false := decide_eq_false h4
    clear h
    go_enter Try.func15, Try.ntmps15
    go_wp2_with (first | (go_at_call 31; refine (rin_any _ _ _).mono ?_; rintro e w' ⟨rfl, rfl⟩))
    go_ret2
    exact ⟨rfl, below_alloc _ _⟩
  exact absurd ⟨h0, h1, h2, h3, h4⟩ h

set_option maxRecDepth 100000 in
set_option maxHeartbeats 2000000 in
theorem trbuild_opts (s d : Int) (p : Pc) (ao ad : Option Addr) (co cd : Nat) (w : World) (ho : p.opts.length ≤ 140737488351232) (h0 : inB p.src 65535) (h1 : inB p.dst 65535) (h2 : inB p.window 65535) (h3 : inB p.urgent 65535) (h4 : inB p.flags 255) (h : ¬ (p.opts.length ≤ 40 ∧ p.opts.length % 4 = 0)) :
    Calls Try.prog 15 #[.int .u32 s, .int .u32 d, pcV p (.slice ao p.opts.length co) (.slice ad p.data.length cd)] w fun e w' => e = .returned (.tuple #[.slice none 0 0, .int .i64 1]) ∧ Below w.heap.size w w' := by
  have g0 : inBb p.src 65535 = true := decide_eq_true h0
  have g1 : inBb p.dst 65535 = true := decide_eq_true h1
  have g2 : inBb p.window 65535 = true := decide_eq_true h2
  have g3 : inBb p.urgent 65535 = true := decide_eq_true h3
  have g4 : inBb p.flags 255 = true := decide_eq_true h4
  by_cases h5 : p.opts.length ≤ 40
  case neg =>
    have g5 : (40 : Int) < (p.opts.length : Int) := by omega
    clear h
    go_enter Try.func15, Try.ntmps15
    go_wp2_with (first | (go_at_call 31; refine (rin_any _ _ _).mono ?_; rintro e w' ⟨rfl, rfl⟩))
    go_ret2
    exact ⟨rfl, below_alloc _ _⟩
  have g5 : ¬ (40 : Int) < (p.opts.length : Int) := by omega
  have g6 : ((p.opts.length : Int) % 4 != 0) = true := by rw [bne_iff_ne]; omega
  clear h
  go_enter Try.func15, Try.ntmps15
  go_wp2_with (first | (go_at_call 31; refine (rin_any _ _ _).mono ?_; rintro e w' ⟨rfl, rfl⟩))
  go_ret2
  exact ⟨rfl, below_alloc _ _⟩

set_option maxRecDepth 100000 in
set_option maxHeartbeats 2000000 in
theorem trbuild_long (s d : Int) (p : Pc) (ao ad : Option Addr) (co cd : Nat) (w : World) (f : TArg p) (h : 2028 < 20 + p.opts.length + p.data.length) :
    Calls Try.prog 15 #[.int .u32 s, .int .u32 d, pcV p (.slice ao p.opts.length co) (.slice ad p.data.length cd)] w fun e w' => e = .returned (.tuple #[.slice none 0 0, .int .i64 3]) ∧ Below w.heap.size w w' := by
  have g0 : inBb p.src 65535 = true := decide_eq_true f.src
  have g1 : inBb p.dst 65535 = true := decide_eq_true f.dst
  have g2 : inBb p.window 65535 = true := decide_eq_true f.window
  have g3 : inBb p.urgent 65535 = true := decide_eq_true f.urgent
  have g4 : inBb p.flags 255 = true := decide_eq_true f.flags
  have o40 := f.o40
  have o4 := f.o4
  have g5 : ¬ (40 : Int) < (p.opts.length : Int) := by omega
  have g6 : (p.opts.length : Int) % 4 = 0 := by omega
  have g7 : 2028 - (20 + (p.opts.length : Int)) < (p.data.length : Int) := by omega
  go_enter Try.func15, Try.ntmps15
  go_wp2_with (first | (go_at_call 31; refine (rin_any _ _ _).mono ?_; rintro e w' ⟨rfl, rfl⟩))
  go_ret2
  exact ⟨rfl, below_alloc _ _⟩

theorem trbuild_no (s d : Int) (p : Pc) (ao ad : Option Addr) (co cd : Nat) (w : World) (ho : p.opts.length ≤ 140737488351232) (h : ¬ buildT p = 0) :
    Calls Try.prog 15 #[.int .u32 s, .int .u32 d, pcV p (.slice ao p.opts.length co) (.slice ad p.data.length cd)] w fun e w' => e = .returned (.tuple #[.slice none 0 0, .int .i64 (buildT p)]) ∧ Below w.heap.size w w' := by
  obtain ⟨E, hE⟩ : ∃ E, buildT p = E := ⟨_, rfl⟩
  rw [hE] at h ⊢
  unfold buildT at hE
  by_cases h0 : TArg p
  case neg =>
    rw [if_pos h0] at hE; subst hE
    by_cases h1 : inB p.src 65535 ∧ inB p.dst 65535 ∧ inB p.window 65535 ∧ inB p.urgent 65535 ∧ inB p.flags 255
    case neg => exact trbuild_ports s d p ao ad co cd w h1
    obtain ⟨a, b, c, e, g⟩ := h1
    exact trbuild_opts s d p ao ad co cd w ho a b c e g (fun ⟨x, y⟩ => h0 ⟨a, b, c, e, g, x, y⟩)
  rw [if_neg (by simpa using h0)] at hE
  by_cases h2 : 2028 < 20 + p.opts.length + p.data.length
  · rw [if_pos h2] at hE; subst hE; exact trbuild_long s d p ao ad co cd w h0 h2
  rw [if_neg h2] at hE
  exact absurd hE.symm h
end Go.Proofs.Ytgeeoggbijimoaa
