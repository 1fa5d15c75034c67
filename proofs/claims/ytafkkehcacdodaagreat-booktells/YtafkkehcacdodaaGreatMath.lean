/- Plain mathematics of sums: what the folding of carries comes to. No program in sight. -/
import Derived.Below
set_option maxRecDepth 100000
namespace Go.Proofs.YtafkkehcacdodaaGreat

/-- What a number comes to when its carries are folded in till nothing is beyond 16 bits. -/
def fold16 (x : Int) : Int := if x ≤ 0 then 0 else (x - 1) % 65535 + 1

theorem fold16_small (x : Int) (h0 : 0 ≤ x) (h : x ≤ 65535) : fold16 x = x := by
  unfold fold16; split <;> omega

theorem fold16_step (x : Int) (h0 : 65535 < x) : fold16 (x / 65536 + x % 65536) = fold16 x := by
  unfold fold16; split <;> split <;> omega

theorem fold16_bd (x : Int) : 0 ≤ fold16 x ∧ fold16 x ≤ 65535 := by
  unfold fold16; split <;> omega

theorem fold16_less (x : Int) (h : 65535 < x) : x / 65536 + x % 65536 < x ∧ 0 ≤ x / 65536 + x % 65536 := by omega

/-- Plus, of any numbers. -/
def plus16 (a b : Int) : Int := fold16 (a % 65536 + b % 65536)

theorem plus16_comm (a b : Int) : plus16 a b = plus16 b a := by unfold plus16; rw [Int.add_comm]

theorem plus16_bd (a b : Int) : 0 ≤ plus16 a b ∧ plus16 a b ≤ 65535 := fold16_bd _

theorem plus16_assoc (a b c : Int) : plus16 (plus16 a b) c = plus16 a (plus16 b c) := by
  unfold plus16 fold16; split <;> split <;> split <;> split <;> omega

/-- 65535 less the lowest 16 bits. -/
def turn16 (x : Int) : Int := 65535 - x % 65536

theorem turn_fold (x : Int) : turn16 (fold16 x) = 65535 - fold16 x := by
  have := fold16_bd x
  unfold turn16; omega

def upd16 (c o n : Int) : Int := turn16 (plus16 (plus16 (turn16 c) (turn16 o)) n)

end Go.Proofs.YtafkkehcacdodaaGreat
