/- The contracts of Kind and Number, and of Kind in the document's own answer. -/
import Derived.Test.YtdejjokgchbgnaaIcmpSmall
set_option maxRecDepth 100000
namespace Go.Proofs.Ytdejjokgchbgnaa
open Go.RowKit

def echoW (code x : Int) : Int := if code = 0 then x else 0

theorem echo_any (m : Wd) (a : Option Addr) (n c : Nat) (x : Int) (w : World) :
    Calls Try.prog 73 #[wdV m (.slice a n c), .int .i64 x] w fun e w' => e = .returned (.int .i64 (echoW m.code x)) ∧ Below w.heap.size w w' := by
  by_cases h : m.code = 0
  · have E : Hid (echoW m.code x = x) := if_pos h
    have hne : (m.code != 0) = false := by rw [h]; rfl
    clear h
    go_enter Try.func73, Try.ntmps73
    go_wp2
    go_ret
    exact ⟨ret_int E.out.symm, below_alloc _ _⟩
  · have E : Hid (echoW m.code x = 0) := if_neg h
    have hne : (m.code != 0) = true := by rw [bne_iff_ne]; exact h
    clear h
    go_enter Try.func73, Try.ntmps73
    go_wp2
    go_ret
    exact ⟨ret_int E.out.symm, below_alloc _ _⟩

theorem number_of (m : Wd) (a : Option Addr) (n c : Nat) (w : World) (h0 : 0 ≤ m.rest) (h1 : m.rest < 4294967296) :
    Calls Try.prog 65 #[wdV m (.slice a n c)] w fun e w' => e = .returned (.int .i64 (m.rest / 65536)) ∧ Below w.heap.size w w' := by
  go_enter Try.func65, Try.ntmps65
  go_wp2
  go_ret
  exact ⟨ret_int (by omega), below_alloc _ _⟩

theorem kind_any (m : Wd) (a : Option Addr) (n c : Nat) (w : World) :
    Calls Try.prog 63 #[wdV m (.slice a n c)] w fun e w' => e = .returned (.int .i64 (kindW m.type m.code)) ∧ Below w.heap.size w w' := by
  obtain ⟨t, code, rest, data⟩ := m
  show Calls Try.prog 63 #[wdV ⟨t, code, rest, data⟩ (.slice a n c)] w fun e w' => e = .returned (.int .i64 (kindW t code)) ∧ Below w.heap.size w w'
  by_cases h3 : t = 3
  · subst h3
    have E : Hid (kindW 3 code = 5) := by show kindW 3 code = 5; unfold kindW; simp
    go_enter Try.func63, Try.ntmps63
    go_wp2
    go_ret
    exact ⟨ret_int E.out.symm, below_alloc _ _⟩
  by_cases h11 : t = 11
  · subst h11
    have E : Hid (kindW 11 code = 5) := by show kindW 11 code = 5; unfold kindW; simp
    go_enter Try.func63, Try.ntmps63
    go_wp2
    go_ret
    exact ⟨ret_int E.out.symm, below_alloc _ _⟩
  by_cases h12 : t = 12
  · subst h12
    have E : Hid (kindW 12 code = 5) := by show kindW 12 code = 5; unfold kindW; simp
    go_enter Try.func63, Try.ntmps63
    go_wp2
    go_ret
    exact ⟨ret_int E.out.symm, below_alloc _ _⟩
  by_cases h8 : t = 8
  · subst h8
    have E : Hid (kindW 8 code = echoW code 3) := by show kindW 8 code = echoW code 3; unfold kindW echoW; simp
    go_enter Try.func63, Try.ntmps63
    go_wp2_with fail
    refine (echo_any ⟨8, code, rest, data⟩ a n c 3 _).mono ?_
    rintro e w1 ⟨rfl, hb1⟩
    go_wp2
    go_ret
    exact ⟨ret_int E.out.symm, below_trans (below_alloc _ _) hb1⟩
  by_cases h0 : t = 0
  · subst h0
    have E : Hid (kindW 0 code = echoW code 4) := by show kindW 0 code = echoW code 4; unfold kindW echoW; simp
    go_enter Try.func63, Try.ntmps63
    go_wp2_with fail
    refine (echo_any ⟨0, code, rest, data⟩ a n c 4 _).mono ?_
    rintro e w1 ⟨rfl, hb1⟩
    go_wp2
    go_ret
    exact ⟨ret_int E.out.symm, below_trans (below_alloc _ _) hb1⟩
  have E : Hid (kindW t code = 0) := by show kindW t code = 0; unfold kindW; simp [h3, h11, h12, h8, h0]
  go_enter Try.func63, Try.ntmps63
  go_wp2
  go_ret
  exact ⟨ret_int E.out.symm, below_alloc _ _⟩

theorem rkind_any (m : Wd) (a : Option Addr) (n c : Nat) (w : World) :
    Calls Try.prog 50 #[wdV m (.slice a n c)] w fun e w' => e = .returned (.int .i64 (kindW m.type m.code)) ∧ Below w.heap.size w w' := by
  obtain ⟨t, code, rest, data⟩ := m
  show Calls Try.prog 50 #[wdV ⟨t, code, rest, data⟩ (.slice a n c)] w fun e w' => e = .returned (.int .i64 (kindW t code)) ∧ Below w.heap.size w w'
  by_cases h3 : t = 3
  · subst h3
    have E : Hid (kindW 3 code = 5) := by show kindW 3 code = 5; unfold kindW; simp
    go_enter Try.func50, Try.ntmps50
    go_wp2
    go_ret
    exact ⟨ret_int E.out.symm, below_alloc _ _⟩
  by_cases h11 : t = 11
  · subst h11
    have E : Hid (kindW 11 code = 5) := by show kindW 11 code = 5; unfold kindW; simp
    go_enter Try.func50, Try.ntmps50
    go_wp2
    go_ret
    exact ⟨ret_int E.out.symm, below_alloc _ _⟩
  by_cases h12 : t = 12
  · subst h12
    have E : Hid (kindW 12 code = 5) := by show kindW 12 code = 5; unfold kindW; simp
    go_enter Try.func50, Try.ntmps50
    go_wp2
    go_ret
    exact ⟨ret_int E.out.symm, below_alloc _ _⟩
  by_cases h8 : t = 8
  · subst h8
    by_cases hc : code = 0
    · subst hc
      have E : Hid (kindW 8 0 = 3) := (by decide : kindW 8 0 = 3)
      go_enter Try.func50, Try.ntmps50
      go_wp2
      go_ret
      exact ⟨ret_int E.out.symm, below_alloc _ _⟩
    · have E : Hid (kindW 8 code = 0) := by show kindW 8 code = 0; unfold kindW; simp [hc]
      go_enter Try.func50, Try.ntmps50
      go_wp2
      go_ret
      exact ⟨ret_int E.out.symm, below_alloc _ _⟩
  by_cases h0 : t = 0
  · subst h0
    by_cases hc : code = 0
    · subst hc
      have E : Hid (kindW 0 0 = 4) := (by decide : kindW 0 0 = 4)
      go_enter Try.func50, Try.ntmps50
      go_wp2
      go_ret
      exact ⟨ret_int E.out.symm, below_alloc _ _⟩
    · have E : Hid (kindW 0 code = 0) := by show kindW 0 code = 0; unfold kindW; simp [hc]
      go_enter Try.func50, Try.ntmps50
      go_wp2
      go_ret
      exact ⟨ret_int E.out.symm, below_alloc _ _⟩
  have E : Hid (kindW t code = 0) := by show kindW t code = 0; unfold kindW; simp [h3, h11, h12, h8, h0]
  have e3 : (t == 3) = false := by simp [h3]
  have e11 : (t == 11) = false := by simp [h11]
  have e12 : (t == 12) = false := by simp [h12]
  have e8 : (t == 8) = false := by simp [h8]
  have e0 : (t == 0) = false := by simp [h0]
  clear h3 h11 h12 h8 h0
  go_enter Try.func50, Try.ntmps50
  go_wp2
  go_ret
  exact ⟨ret_int E.out.symm, below_alloc _ _⟩
end Go.Proofs.Ytdejjokgchbgnaa
