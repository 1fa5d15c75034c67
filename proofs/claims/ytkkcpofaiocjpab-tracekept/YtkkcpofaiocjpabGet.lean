/- The contracts of holds and Get, in octet and in the document's own answer. -/
import Derived.Test.YtkkcpofaiocjpabFold
import Derived.Test.YtkkcpofaiocjpabWords
set_option maxRecDepth 100000
namespace Go.Proofs.Ytkkcpofaiocjpab
open Go.RowKit

def holdsB (len : Nat) (at_ n : Int) : Bool := decide (1 ≤ n ∧ n ≤ 8 ∧ 0 ≤ at_ ∧ at_ ≤ len - n)

theorem ret_bool {a b : Bool} (h : a = b) : Ending.returned (.bool a) = .returned (.bool b) := by rw [h]

/-- The number of bytes, the highest first. -/
def num (l : List Int) : Int := l.foldl (fun x c => x * 256 + c) 0

theorem num_snoc (l : List Int) (c : Int) : num (l ++ [c]) = num l * 256 + c := by unfold num; simp

theorem num_bd (l : List Int) (h : isBytes l) : 0 ≤ num l ∧ num l < 256 ^ l.length := by
  suffices H : ∀ (l : List Int) (x : Int) (m : Nat), isBytes l → 0 ≤ x → x < 256 ^ m → 0 ≤ l.foldl (fun x c => x * 256 + c) x ∧ l.foldl (fun x c => x * 256 + c) x < 256 ^ (m + l.length) by
    have := H l 0 0 h (by omega) (by simp)
    simpa [num] using this
  intro l
  induction l with
  | nil => intro x m _ h0 h1; simpa using ⟨h0, h1⟩
  | cons c l ih =>
    intro x m hb h0 h1
    have hc := hb c (by simp)
    have := ih (x * 256 + c) (m + 1) (fun z hz => hb z (by simp [hz])) (by omega) (by rw [Int.pow_succ]; omega)
    simpa [Nat.add_comm, Nat.add_left_comm, Nat.add_assoc] using this

/-- The bytes that a slice shows: it leads to a row of cells. -/
def Sees (w : World) (b off : Nat) (l : List Int) : Prop := ∀ i, i < l.length → w.cell? ⟨b, off + i, none⟩ = some (.int .u8 (l.getD i 0))

theorem or_low (x c : Int) (h0 : 0 ≤ x) (h1 : x < 72057594037927936) (h2 : 0 ≤ c) (h3 : c < 256) : bits .or .u64 (x * 256) c = x * 256 + c :=
  bits_join .u64 64 (by decide) (fun n a b => u64_id n a b) 8 (x * 256) c (by omega) (by omega) (by omega) h2 (by omega) (by omega)

theorem take_next (l : List Int) (p k : Nat) (h : p + k < l.length) : (l.drop p).take (k + 1) = (l.drop p).take k ++ [l.getD (p + k) 0] := by
  rw [List.take_succ_eq_append_getElem (by simp; omega)]
  simp [List.getElem_drop, List.getElem?_eq_getElem h]

theorem isBytes_part (l : List Int) (hb : isBytes l) (p n : Nat) : isBytes ((l.drop p).take n) :=
  fun z hz => hb z (List.mem_of_mem_drop (List.mem_of_mem_take hz))

theorem num_small (l : List Int) (hb : isBytes l) (p k : Nat) (hk : k ≤ 7) : 0 ≤ num ((l.drop p).take k) ∧ num ((l.drop p).take k) < 72057594037927936 := by
  have h := num_bd _ (isBytes_part l hb p k)
  have hle : ((l.drop p).take k).length ≤ 7 := by simp; omega
  have : (256 : Int) ^ ((l.drop p).take k).length ≤ 256 ^ 7 := by
    have h := Int.ofNat_le.2 (Nat.pow_le_pow_right (n := 256) (by decide) hle)
    rw [Int.natCast_pow, Int.natCast_pow] at h
    exact h
  exact ⟨h.1, by have e : (256 : Int) ^ 7 = 72057594037927936 := by decide
                 omega⟩

/-- What Get answers. -/
def getV (l : List Int) (p n : Int) : Int := if holdsB l.length p n then num ((l.drop p.toNat).take n.toNat) else 0

end Go.Proofs.Ytkkcpofaiocjpab
