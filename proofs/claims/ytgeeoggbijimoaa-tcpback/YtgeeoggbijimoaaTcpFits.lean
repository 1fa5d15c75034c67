/- The contract of fits. -/
import Derived.Test.YtgeeoggbijimoaaTcpSmall
namespace Go.Proofs.Ytgeeoggbijimoaa
open Go.RowKit

/-- A segment as a value. -/
@[reducible] def pcV (p : Pc) (vo vd : Value) : Value := .agg #[.int .i64 p.src, .int .i64 p.dst, .int .u32 p.seq, .int .u32 p.ack, .int .i64 p.flags, .int .i64 p.window, .int .i64 p.urgent, vo, vd]

@[reducible] def pcC (p : Pc) (vo vd : Value) : Array Value := #[.int .i64 p.src, .int .i64 p.dst, .int .u32 p.seq, .int .u32 p.ack, .int .i64 p.flags, .int .i64 p.window, .int .i64 p.urgent, vo, vd]

def argB (p : Pc) : Bool := decide (TArg p)

theorem fits_two (w : World) (f : Int) (C : Array Value) (t : TypeId) : Below w.heap.size w ((w.alloc (.cells C t)).alloc (.cells #[.int .i64 f] 3)) :=
  below_trans (below_alloc _ _) (below_alloc _ _)

theorem flag_cell (w : World) (f : Int) : (w.alloc (.cells #[.int .i64 f] 3)).cell? ⟨w.heap.size, 0, none⟩ = some (.int .i64 f) := by
  rw [World.cell?_alloc_mark w #[.int .i64 f] 3 (0, 0) 0]; rfl

set_option maxHeartbeats 1000000 in
theorem fits_src (p : Pc) (ao ad : Option Addr) (no nd co cd : Nat) (w : World) (h : ¬ inB p.src 65535) :
    Calls Try.prog 17 #[pcV p (.slice ao no co) (.slice ad nd cd)] w fun e w' => e = .returned (.bool false) ∧ Below w.heap.size w w' := by
  have g0 : inBb p.src 65535 = false := decide_eq_false h
  go_enter Try.func17, Try.ntmps17
  go_wp2_with (first | (go_at_call 33; refine (tester_any _ _).mono ?_; rintro e w' ⟨rfl, rfl⟩) | (go_at_call 34; refine (isField_any _ _).mono ?_; rintro e w' ⟨rfl, rfl⟩))
  go_ret
  exact ⟨rfl, fits_two _ _ _ _⟩

set_option maxHeartbeats 1000000 in
theorem fits_dst (p : Pc) (ao ad : Option Addr) (no nd co cd : Nat) (w : World) (h0 : inB p.src 65535) (h : ¬ inB p.dst 65535) :
    Calls Try.prog 17 #[pcV p (.slice ao no co) (.slice ad nd cd)] w fun e w' => e = .returned (.bool false) ∧ Below w.heap.size w w' := by
  have g0 : inBb p.src 65535 = true := decide_eq_true h0
  have g1 : inBb p.dst 65535 = false := decide_eq_false h
  go_enter Try.func17, Try.ntmps17
  go_wp2_with (first | (go_at_call 33; refine (tester_any _ _).mono ?_; rintro e w' ⟨rfl, rfl⟩) | (go_at_call 34; refine (isField_any _ _).mono ?_; rintro e w' ⟨rfl, rfl⟩))
  go_ret
  exact ⟨rfl, fits_two _ _ _ _⟩

set_option maxHeartbeats 1000000 in
theorem fits_window (p : Pc) (ao ad : Option Addr) (no nd co cd : Nat) (w : World) (h0 : inB p.src 65535) (h1 : inB p.dst 65535) (h : ¬ inB p.window 65535) :
    Calls Try.prog 17 #[pcV p (.slice ao no co) (.slice ad nd cd)] w fun e w' => e = .returned (.bool false) ∧ Below w.heap.size w w' := by
  have g0 : inBb p.src 65535 = true := decide_eq_true h0
  have g1 : inBb p.dst 65535 = true := decide_eq_true h1
  have g2 : inBb p.window 65535 = false := decide_eq_false h
  go_enter Try.func17, Try.ntmps17
  go_wp2_with (first | (go_at_call 33; refine (tester_any _ _).mono ?_; rintro e w' ⟨rfl, rfl⟩) | (go_at_call 34; refine (isField_any _ _).mono ?_; rintro e w' ⟨rfl, rfl⟩))
  go_ret
  exact ⟨rfl, fits_two _ _ _ _⟩

set_option maxHeartbeats 1000000 in
theorem fits_urgent (p : Pc) (ao ad : Option Addr) (no nd co cd : Nat) (w : World) (h0 : inB p.src 65535) (h1 : inB p.dst 65535) (h2 : inB p.window 65535) (h : ¬ inB p.urgent 65535) :
    Calls Try.prog 17 #[pcV p (.slice ao no co) (.slice ad nd cd)] w fun e w' => e = .returned (.bool false) ∧ Below w.heap.size w w' := by
  have g0 : inBb p.src 65535 = true := decide_eq_true h0
  have g1 : inBb p.dst 65535 = true := decide_eq_true h1
  have g2 : inBb p.window 65535 = true := decide_eq_true h2
  have g3 : inBb p.urgent 65535 = false := decide_eq_false h
  go_enter Try.func17, Try.ntmps17
  go_wp2_with (first | (go_at_call 33; refine (tester_any _ _).mono ?_; rintro e w' ⟨rfl, rfl⟩) | (go_at_call 34; refine (isField_any _ _).mono ?_; rintro e w' ⟨rfl, rfl⟩))
  go_ret
  exact ⟨rfl, fits_two _ _ _ _⟩

set_option maxHeartbeats 4000000 in
/-- Behind the four fields: the flags, the options. -/
theorem fits_rest (p : Pc) (ao ad : Option Addr) (no nd co cd : Nat) (w : World) (k0 : -9223372036854775808 ≤ p.flags) (k1 : p.flags < 9223372036854775808) (hno : no ≤ 140737488351232) (h0 : inB p.src 65535) (h1 : inB p.dst 65535) (h2 : inB p.window 65535) (h3 : inB p.urgent 65535) (r : Bool)
    (hr : r = (inBb p.flags 255 && (decide (no ≤ 40) && decide (no % 4 = 0)))) :
    Calls Try.prog 17 #[pcV p (.slice ao no co) (.slice ad nd cd)] w fun e w' => e = .returned (.bool r) ∧ Below w.heap.size w w' := by
  have g0 : inBb p.src 65535 = true := decide_eq_true h0
  have g1 : inBb p.dst 65535 = true := decide_eq_true h1
  have g2 : inBb p.window 65535 = true := decide_eq_true h2
  have g3 : inBb p.urgent 65535 = true := decide_eq_true h3
  have hc := flag_cell (w.alloc (.cells (pcC p (.slice ao no co) (.slice ad nd cd)) 29)) p.flags
  rw [World.size_alloc] at hc
  have hfb := flag_bits p.flags k0 k1
  cases hf : inBb p.flags 255
  · rw [hf] at hfb hr
    have hr' : Hid (r = false) := hr
    clear hr
    have hfb' : (bits .and .i64 p.flags (-256) != 0) = true := hfb
    clear hfb k0 k1
    go_enter Try.func17, Try.ntmps17
    go_wp2_with (first | (go_at_call 33; refine (tester_any _ _).mono ?_; rintro e w' ⟨rfl, rfl⟩) | (go_at_call 34; refine (isField_any _ _).mono ?_; rintro e w' ⟨rfl, rfl⟩) | (go_at_call 42; refine (tests_any p.flags _ _ _ (by with_reducible exact hc)).mono ?_; rintro e w' ⟨rfl, rfl⟩))
    go_ret
    exact ⟨ret_bool hr'.out.symm, fits_two _ _ _ _⟩
  · rw [hf] at hfb hr
    have hr' : Hid (r = (decide (no ≤ 40) && decide (no % 4 = 0))) := hr
    clear hr
    have hfb' : (bits .and .i64 p.flags (-256) != 0) = false := hfb
    clear hfb k0 k1
    by_cases h40 : no ≤ 40
    · by_cases h4 : no % 4 = 0
      · have a1 : (no : Int) ≤ 40 := by omega
        have a2 : (no : Int) % 4 = 0 := by omega
        go_enter Try.func17, Try.ntmps17
        go_wp2_with (first | (go_at_call 33; refine (tester_any _ _).mono ?_; rintro e w' ⟨rfl, rfl⟩) | (go_at_call 34; refine (isField_any _ _).mono ?_; rintro e w' ⟨rfl, rfl⟩) | (go_at_call 42; refine (tests_any p.flags _ _ _ (by with_reducible exact hc)).mono ?_; rintro e w' ⟨rfl, rfl⟩))
        go_ret
        exact ⟨ret_bool (by rw [hr'.out]; simp [h40, h4]), fits_two _ _ _ _⟩
      · have a1 : (no : Int) ≤ 40 := by omega
        have a2 : ¬ (no : Int) % 4 = 0 := by omega
        go_enter Try.func17, Try.ntmps17
        go_wp2_with (first | (go_at_call 33; refine (tester_any _ _).mono ?_; rintro e w' ⟨rfl, rfl⟩) | (go_at_call 34; refine (isField_any _ _).mono ?_; rintro e w' ⟨rfl, rfl⟩) | (go_at_call 42; refine (tests_any p.flags _ _ _ (by with_reducible exact hc)).mono ?_; rintro e w' ⟨rfl, rfl⟩))
        go_ret
        exact ⟨ret_bool (by rw [hr'.out]; simp [h40, h4]; omega), fits_two _ _ _ _⟩
    · have a1 : ¬ (no : Int) ≤ 40 := by omega
      go_enter Try.func17, Try.ntmps17
      go_wp2_with (first | (go_at_call 33; refine (tester_any _ _).mono ?_; rintro e w' ⟨rfl, rfl⟩) | (go_at_call 34; refine (isField_any _ _).mono ?_; rintro e w' ⟨rfl, rfl⟩) | (go_at_call 42; refine (tests_any p.flags _ _ _ (by with_reducible exact hc)).mono ?_; rintro e w' ⟨rfl, rfl⟩))
      go_ret
      exact ⟨ret_bool (by rw [hr'.out]; simp [h40]), fits_two _ _ _ _⟩

theorem fits_any (p : Pc) (ao ad : Option Addr) (nd co cd : Nat) (w : World) (k : p.Ok) (hno : p.opts.length ≤ 140737488351232) :
    Calls Try.prog 17 #[pcV p (.slice ao p.opts.length co) (.slice ad nd cd)] w fun e w' => e = .returned (.bool (argB p)) ∧ Below w.heap.size w w' := by
  by_cases h0 : inB p.src 65535
  case neg =>
    have e : argB p = false := decide_eq_false (fun a => h0 a.src)
    rw [e]; exact fits_src p ao ad _ nd co cd w h0
  by_cases h1 : inB p.dst 65535
  case neg =>
    have e : argB p = false := decide_eq_false (fun a => h1 a.dst)
    rw [e]; exact fits_dst p ao ad _ nd co cd w h0 h1
  by_cases h2 : inB p.window 65535
  case neg =>
    have e : argB p = false := decide_eq_false (fun a => h2 a.window)
    rw [e]; exact fits_window p ao ad _ nd co cd w h0 h1 h2
  by_cases h3 : inB p.urgent 65535
  case neg =>
    have e : argB p = false := decide_eq_false (fun a => h3 a.urgent)
    rw [e]; exact fits_urgent p ao ad _ nd co cd w h0 h1 h2 h3
  refine fits_rest p ao ad _ nd co cd w k.fl0 k.fl1 hno h0 h1 h2 h3 _ ?_
  unfold argB inBb
  by_cases h4 : inB p.flags 255
  case neg => rw [decide_eq_false (fun a : TArg p => h4 a.flags)]; simp [h4]
  by_cases h5 : p.opts.length ≤ 40
  case neg => rw [decide_eq_false (fun a : TArg p => h5 a.o40)]; simp [h5]
  by_cases h6 : p.opts.length % 4 = 0
  case neg => rw [decide_eq_false (fun a : TArg p => h6 a.o4)]; simp [h6]
  rw [decide_eq_true (⟨h0, h1, h2, h3, h4, h5, h6⟩ : TArg p)]; simp [h4, h5, h6]
end Go.Proofs.Ytgeeoggbijimoaa
