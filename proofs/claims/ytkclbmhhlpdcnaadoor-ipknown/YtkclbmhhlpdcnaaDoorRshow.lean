/- The document's own Show. -/
import Derived.Test.YtkclbmhhlpdcnaaDoorShow
import Derived.Laws.IdiomStrings
set_option maxRecDepth 100000
namespace Go.Proofs.YtkclbmhhlpdcnaaDoor
open Go.RowKit

theorem str_inj' {x y : ByteArray} (h : x.data.toList = y.data.toList) : x = y := by
  cases x; cases y; simp at h; simpa using h

theorem dig_len3 (b : Nat) : (dig b).length ≤ 3 := by
  unfold dig
  split
  · simp
  · split <;> simp

theorem dig_one (n : Nat) (h : n < 10) : dig n = [UInt8.ofNat (48 + n % 10)] := by
  unfold dig; rw [if_pos h, Nat.mod_eq_of_lt h]

theorem dig_more (n : Nat) (h : n < 256) (h10 : ¬ n < 10) : dig n = dig (n / 10) ++ [UInt8.ofNat (48 + n % 10)] := by
  unfold dig
  rw [if_neg h10]
  by_cases h2 : n < 100
  · rw [if_pos h2, if_pos (by omega)]; simp
  · rw [if_neg h2, if_neg (by omega), if_pos (by omega)]
    have e1 : n / 10 / 10 = n / 100 := by omega
    rw [e1]; rfl

theorem conv1 (z : Int) (c : UInt8) (hz : z = (c.toNat : Int)) (W : World) : (convert 23 9 (.slice (some ⟨W.heap.size, 0, none⟩) 1 1)).run Tryd.prog (W.alloc (.cells #[.int .u8 z] 5)) = .ok (.string ⟨#[c]⟩) (W.alloc (.cells #[.int .u8 z] 5)) := by
  subst hz
  refine run_convert_bytes_back (P := Tryd.prog) (W.alloc (.cells #[.int .u8 (c.toNat : Int)] 5)) 23 9 5 ⟨W.heap.size, 0, none⟩ 1 [c] Tryd.underlying23 Tryd.underlying5 Tryd.underlying9 ?_
  intro j hj
  have hj0 : j = 0 := by simp at hj; omega
  subst hj0
  simp [Addr.add]

theorem cat1 (c : UInt8) (l : List UInt8) : (⟨#[c]⟩ : ByteArray) ++ str l = str (c :: l) := by
  apply str_inj'
  simp [str]

theorem dig_str (b : Nat) : ∃ D, D = str (dig b) ∧ D.size ≤ 3 := ⟨_, rfl, by have := dig_len3 b; simp [str, ByteArray.size]; omega⟩
