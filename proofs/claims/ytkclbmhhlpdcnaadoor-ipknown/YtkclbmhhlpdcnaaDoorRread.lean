/- The document's own Read. -/
import Derived.Test.YtkclbmhhlpdcnaaDoorReadMath
import Derived.Test.YtkclbmhhlpdcnaaDoorRshow
import Derived.Test.YtkclbmhhlpdcnaaDoorAddress
set_option maxRecDepth 100000
namespace Go.Proofs.YtkclbmhhlpdcnaaDoor
open Go.RowKit

/-- What a reading of a text answers. -/
def ReadPost (s : ByteArray) (w : World) (e : Ending) (w' : World) : Prop :=
  (∃ n : Nat, n < 4294967296 ∧ s = str (showL n) ∧ e = .returned (.tuple #[.int .u32 (n : Int), .bool true]) ∧ Below w.heap.size w w') ∨ (¬ IsShow s ∧ e = .returned (.tuple #[.int .u32 0, .bool false]) ∧ Below w.heap.size w w')

theorem drop_at (s : ByteArray) (k : Nat) (h : k < s.size) : s.data.toList.drop k = s[k] :: s.data.toList.drop (k + 1) := by
  rw [List.drop_eq_getElem_cons (by simpa using h)]
  rfl

theorem drop_all (s : ByteArray) : s.data.toList.drop s.size = [] := List.drop_eq_nil_of_le (Nat.le_of_eq Array.length_toList)

theorem ne_text {x y : ByteArray} (h : ¬ x = y) : (x.toList == y.toList) = false := by
  rw [ByteArray.toList_eq, ByteArray.toList_eq]
  exact beq_false_of_ne fun e => h (str_eq e)

theorem or_wrap (A P : Nat) (hP : P < 256) : bits .or .u32 ((A : Int) * 256 % 4294967296) (P : Int) = ((A % 16777216 * 256 + P : Nat) : Int) := by
  have e : (A : Int) * 256 % 4294967296 = ((A % 16777216 : Nat) : Int) * 256 := by omega
  rw [e, or_u32 _ _ (by omega) (by omega) (by omega) (by omega)]
  omega
