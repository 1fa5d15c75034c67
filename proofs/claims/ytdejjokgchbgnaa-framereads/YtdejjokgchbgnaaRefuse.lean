/- The contracts of refuse and number. -/
import Derived.Test.YtdejjokgchbgnaaSum
set_option maxRecDepth 100000
namespace Go.Proofs.Ytdejjokgchbgnaa
open Go.RowKit

/-- A panic of an error's number. -/
def chainOf (x : Int) : List PanicEntry := [{ v := .iface 58 (.int .i64 x), recovered := false }]

theorem refuse_no (x : Int) (w : World) : Calls Try.prog 55 #[.bool false, .int .i64 x] w fun e w' => e = .returned (.tuple #[]) ∧ w' = w := by
  go_enter Try.func55, Try.ntmps55
  go_wp2
  go_end0
  exact ⟨rfl, rfl⟩

theorem refuse_yes (x : Int) (w : World) : Calls Try.prog 55 #[.bool true, .int .i64 x] w fun e w' => e = .panicked (chainOf x) ∧ w' = w := by
  go_enter Try.func55, Try.ntmps55
  go_wp2
  exact ⟨rfl, rfl, rfl⟩

theorem refuse_no' (c : Bool) (x : Int) (w : World) (hc : c = false) : Calls Try.prog 55 #[.bool c, .int .i64 x] w fun e w' => e = .returned (.tuple #[]) ∧ w' = w := by
  subst hc; exact refuse_no x w

theorem refuse_yes' (c : Bool) (x : Int) (w : World) (hc : c = true) : Calls Try.prog 55 #[.bool c, .int .i64 x] w fun e w' => e = .panicked (chainOf x) ∧ w' = w := by
  subst hc; exact refuse_yes x w

theorem getV_bd (l : List Int) (hb : isBytes l) (p n : Int) (hn : n ≤ 4) : 0 ≤ getV l p n ∧ getV l p n < 4294967296 := by
  unfold getV
  split
  · have h := num_bd _ (isBytes_part l hb p.toNat n.toNat)
    have hle : ((l.drop p.toNat).take n.toNat).length ≤ 4 := by simp; omega
    have : (256 : Int) ^ ((l.drop p.toNat).take n.toNat).length ≤ 256 ^ 4 := by
      have h := Int.ofNat_le.2 (Nat.pow_le_pow_right (n := 256) (by decide) hle)
      rw [Int.natCast_pow, Int.natCast_pow] at h
      exact h
    have e : (256 : Int) ^ 4 = 4294967296 := by decide
    omega
  · omega

set_option maxHeartbeats 400000 in
theorem number_yes (b off len cap : Nat) (l : List Int) (p n : Int) (w : World) (hc : len ≤ cap) (hcm : cap ≤ maxLen) (hL : l.length = len) (hb : isBytes l)
    (hs : Sees w b off l) (hn : n ≤ 4) (hh : holdsB len p n = true) :
    Calls Try.prog 56 #[.slice (some ⟨b, off, none⟩) len cap, .int .i64 p, .int .i64 n] w fun e w' => e = .returned (.int .i64 (getV l p n)) ∧ w' = w := by
  have hbd := getV_bd l hb p n hn
  go_enter Try.func56, Try.ntmps56
  go_wp2_with fail
  refine (get_any _ b off len cap l p n _ hc hcm hL hb (.inl rfl) hs).mono ?_
  rintro e w' ⟨rfl, rfl⟩
  rw [hh]
  go_wp2_with fail
  refine (refuse_no _ _).mono ?_
  rintro e w' ⟨rfl, rfl⟩
  go_wp2
  go_ret
  exact ⟨rfl, rfl⟩
end Go.Proofs.Ytdejjokgchbgnaa
