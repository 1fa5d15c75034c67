/- The contracts of refuse and number. -/
import Derived.Test.YtafkkehcacdodaaGreatSum
set_option maxRecDepth 100000
namespace Go.Proofs.YtafkkehcacdodaaGreat
open Go.RowKit

/-- A panic of an error's number. -/
def chainOf (x : Int) : List PanicEntry := [{ v := .iface 26 (.int .i64 x), recovered := false }]

theorem getV_bd (l : List Int) (hb : isBytes l) (p n : Int) (hn : n ≤ 4) : 0 ≤ getV l p n ∧ getV l p n < 4294967296 := by
  unfold getV
  split
  · have h := num_bd _ (isBytes_part l hb p.toNat n.toNat)
    have hle : ((l.drop p.toNat).take n.toNat).length ≤ 4 := by simp; omega
    have : (256 : Int) ^ ((l.drop p.toNat).take n.toNat).length ≤ 256 ^ 4 := by
      have h := Int.ofNat_le.2 (Nat.pow_le_pow_right (n := 256) (by decide) hle)
      rw [Int.natCast_pow, Int.natCast_pow] at h
      exact h
    have e : (256 : Int) ^ 4 = 4294967296 := by decide
    omega
  · omega
