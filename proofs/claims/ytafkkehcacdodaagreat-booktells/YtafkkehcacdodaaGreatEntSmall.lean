/- The contracts of size and measured, and of size in the document's own answer. -/
import Derived.Test.YtafkkehcacdodaaGreatEntMath
import Derived.Test.YtafkkehcacdodaaGreatRowA
set_option maxRecDepth 100000
namespace Go.Proofs.YtafkkehcacdodaaGreat
open Go.RowKit

/-- An entry as a value. -/
@[reducible] def enV (e : En) : Value := .agg #[.int .i64 e.kind, .int .i64 e.time, .int .u32 e.sub, .int .u32 e.addr, .int .i64 e.block]

@[reducible] def enC (e : En) : Array Value := #[.int .i64 e.kind, .int .i64 e.time, .int .u32 e.sub, .int .u32 e.addr, .int .i64 e.block]

theorem size_any (k : Int) (w : World) : Calls Tryz.prog 117 #[.int .i64 k] w fun x w' => x = .returned (.int .i64 (sizeK k)) ∧ w' = w := by
  by_cases k1 : k = 1
  · subst k1
    go_enter Tryz.func117, Tryz.ntmps117
    go_wp2
    go_ret
    exact ⟨rfl, rfl⟩
  by_cases k2 : k = 2
  · subst k2
    go_enter Tryz.func117, Tryz.ntmps117
    go_wp2
    go_ret
    exact ⟨rfl, rfl⟩
  by_cases k3 : k = 3
  · subst k3
    go_enter Tryz.func117, Tryz.ntmps117
    go_wp2
    go_ret
    exact ⟨rfl, rfl⟩
  have E : Hid (sizeK k = 0) := by show sizeK k = 0; unfold sizeK; rw [if_neg k1, if_neg k2, if_neg k3]
  go_enter Tryz.func117, Tryz.ntmps117
  go_wp2
  go_ret
  exact ⟨by rw [E.out]; rfl, rfl⟩

theorem rsize_any (k : Int) (w : World) : Calls Tryz.prog 76 #[.int .i64 k] w fun x w' => x = .returned (.int .i64 (sizeK k)) ∧ w' = w := by
  by_cases k1 : k = 1
  · subst k1
    go_enter Tryz.func76, Tryz.ntmps76
    go_wp2
    go_ret
    exact ⟨rfl, rfl⟩
  by_cases k2 : k = 2
  · subst k2
    go_enter Tryz.func76, Tryz.ntmps76
    go_wp2
    go_ret
    exact ⟨rfl, rfl⟩
  by_cases k3 : k = 3
  · subst k3
    go_enter Tryz.func76, Tryz.ntmps76
    go_wp2
    go_ret
    exact ⟨rfl, rfl⟩
  have E : Hid (sizeK k = 0) := by show sizeK k = 0; unfold sizeK; rw [if_neg k1, if_neg k2, if_neg k3]
  go_enter Tryz.func76, Tryz.ntmps76
  go_wp2
  go_ret
  exact ⟨by rw [E.out]; rfl, rfl⟩

/-- What the first look says. -/
def whyM (l : List Int) : Int :=
  if l.length = 0 then 2
  else if sizeK (b1 l 0) = 0 then 4
  else if (l.length : Int) < sizeK (b1 l 0) then 2
  else if sizeK (b1 l 0) < (l.length : Int) then 3
  else 0

set_option maxHeartbeats 400000 in
theorem measured_any (a : Option Addr) (b off len cap : Nat) (l : List Int) (w : World) (hc : len ≤ maxLen) (hL : l.length = len) (hb : isBytes l)
    (ha : a = some ⟨b, off, none⟩ ∨ l = []) (hs : Sees w b off l) :
    Calls Tryz.prog 96 #[.slice a len cap] w fun x w' => x = .returned (.int .i64 (whyM l)) ∧ w' = w := by
  unfold maxLen at hc
  rcases Nat.eq_zero_or_pos len with h0 | h0
  · subst h0
    have E : Hid (whyM l = 2) := by show whyM l = 2; unfold whyM; rw [if_pos hL]
    clear hL
    go_enter Tryz.func96, Tryz.ntmps96
    go_wp2
    go_ret
    exact ⟨by rw [E.out]; rfl, rfl⟩
  rcases ha with rfl | hnil
  case inr => subst hnil; simp at hL; omega
  have hcell : w.cell? ⟨b, off, none⟩ = some (.int .u8 (b1 l 0)) := by have := hs 0 (by omega); rwa [Nat.add_zero] at this
  have hbd := b1_bd l hb 0
  have E : Hid (whyM l = if sizeK (b1 l 0) = 0 then 4 else if (len : Int) < sizeK (b1 l 0) then 2 else if sizeK (b1 l 0) < (len : Int) then 3 else 0) := by
    show whyM l = _; unfold whyM; rw [hL, if_neg (by omega)]
  generalize b1 l 0 = c at *
  have hS : ∀ W, Calls Tryz.prog 117 #[.int .i64 c] W fun x w' => x = .returned (.int .i64 (sizeK c)) ∧ w' = W := fun W => size_any c W
  have hsz : sizeK c = 0 ∨ 0 < sizeK c := by unfold sizeK; split; · omega
                                             split; · omega
                                             split <;> omega
  have hsm : sizeK c ≤ 19 := by unfold sizeK; split; · omega
                                split; · omega
                                split <;> omega
  generalize sizeK c = n at *
  clear hL hs hb
  rcases hsz with hn | hn
  · subst hn
    go_enter Tryz.func96, Tryz.ntmps96
    go_wp2_with fail
    refine (hS _).mono ?_
    rintro e w1 ⟨rfl, rfl⟩
    go_wp2
    go_ret
    exact ⟨by rw [E.out]; rfl, rfl⟩
  have hn0 : n ≠ 0 := by omega
  by_cases h1 : (len : Int) < n
  · have E' : Hid (whyM l = 2) := by show whyM l = 2; rw [E.out, if_neg hn0, if_pos h1]
    clear E
    go_enter Tryz.func96, Tryz.ntmps96
    go_wp2_with fail
    refine (hS _).mono ?_
    rintro e w1 ⟨rfl, rfl⟩
    go_wp2
    go_ret
    exact ⟨by rw [E'.out]; rfl, rfl⟩
  by_cases h2 : n < (len : Int)
  · have E' : Hid (whyM l = 3) := by show whyM l = 3; rw [E.out, if_neg hn0, if_neg h1, if_pos h2]
    clear E
    go_enter Tryz.func96, Tryz.ntmps96
    go_wp2_with fail
    refine (hS _).mono ?_
    rintro e w1 ⟨rfl, rfl⟩
    go_wp2
    go_ret
    exact ⟨by rw [E'.out]; rfl, rfl⟩
  have E' : Hid (whyM l = 0) := by show whyM l = 0; rw [E.out, if_neg hn0, if_neg h1, if_neg h2]
  clear E
  go_enter Tryz.func96, Tryz.ntmps96
  go_wp2_with fail
  refine (hS _).mono ?_
  rintro e w1 ⟨rfl, rfl⟩
  go_wp2
  go_ret
  exact ⟨by rw [E'.out]; rfl, rfl⟩

end Go.Proofs.YtafkkehcacdodaaGreat
