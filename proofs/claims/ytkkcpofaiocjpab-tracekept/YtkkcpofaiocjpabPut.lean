/- The contracts of Put, in octet and in the document's own answer. -/
import Derived.Test.YtkkcpofaiocjpabCopy
import Derived.Test.YtkkcpofaiocjpabLay
import Derived.Laws.CopyOwn
set_option maxRecDepth 100000
namespace Go.Proofs.Ytkkcpofaiocjpab
open Go.RowKit

/-- Behind make and copy. -/
theorem holds8_made {w : World} {base G len : Nat} {l : List Int} {cur : List Value} (hlen : l.length = len) (hbase : base ≤ G) (hm : len ≤ maxLen)
    (hg : w.heap[G]? = some (.cells cur.toArray 5 (0, 0))) (hc : cur = l.map (Value.int .u8)) : Holds8 w base G len len l := by
  refine ⟨hlen, by simp [hlen], .inr ⟨G, len, cur.toArray, rfl, hbase, hg, Nat.le_refl _, hm, ?_, ?_⟩⟩
  · simp [hc, hlen]
  · simp [hc, hlen, List.take_of_length_le]

theorem made_block {w : World} {base G len : Nat} {xs : List Value} (h : w.ownsRow base 5 1 (.slice (some ⟨G, 0, none⟩) len len) len xs) :
    ∃ cur : List Value, cur.length = len ∧ w.heap[G]? = some (.cells cur.toArray 5 (0, 0)) := by
  rcases h.2 with ⟨h', _⟩ | ⟨g', cap', cur, h', _, hg, _, _, hcs, _⟩
  · simp at h'
  · simp only [Value.slice.injEq, Option.some.injEq, Addr.mk.injEq, and_true, true_and] at h'
    obtain ⟨rfl, rfl⟩ := h'
    exact ⟨cur.toList, by simpa using hcs, by simpa using hg⟩

theorem splice_all {α : Type} (Z X : List α) (h : Z.length = X.length) : splice Z 0 X = X := by
  unfold splice; simp; omega

end Go.Proofs.Ytkkcpofaiocjpab
