/- The contracts of Copy and Same. -/
import Derived.Test.YtafkkehcacdodaaGreatOpen
import Derived.Deep.QuietTactic
import Derived.BigQuiet
set_option maxRecDepth 100000
namespace Go.Proofs.YtafkkehcacdodaaGreat
open Go.RowKit

theorem info5 : (Tryz.prog.info? 5).map (fun i => (i.zero, i.size, i.bytes)) = some (some (.int .u8 0), 1, 1) := by kernel_rfl

theorem size5 : (Tryz.prog.info? 5).map (·.size) = some 1 := by kernel_rfl

/-- A slice of bytes in memory that is the call's own. -/
def Owns (w : World) (base : Nat) (v : Value) (l : List Int) : Prop := w.ownsRow base 5 1 v l.length (l.map (Value.int .u8))

theorem Owns.bts {w : World} {base : Nat} {v : Value} {l : List Int} (h : Owns w base v l) (hb : isBytes l) : Bts w v l := by
  rcases h.2 with ⟨rfl, h0⟩ | ⟨g, cap, cur, rfl, hbase, hg, hn, hm, hs, ht⟩
  · have : l = [] := List.eq_nil_of_length_eq_zero h0
    subst this
    exact bts_nil w
  · refine ⟨_, cap, g, 0, rfl, hn, hm, hb, .inl rfl, ?_⟩
    intro i hi
    have := h.cells (g := g) rfl i (.int .u8 (l.getD i 0)) (by simp [List.getElem?_eq_getElem hi])
    rw [add_at] at this
    exact this

set_option maxHeartbeats 1000000 in
theorem copy_any (a : Option Addr) (b off len cap : Nat) (l : List Int) (w : World) (hc : len ≤ cap) (hL : l.length = len)
    (ha : a = some ⟨b, off, none⟩ ∨ l = []) (hs : Sees w b off l) (hreach : len ≤ 140737488351232) :
    Calls Tryz.prog 105 #[.slice a len cap] w fun e w' => ∃ v, e = .returned v ∧ Owns w' w.heap.size v l ∧ Below w.heap.size w w' := by
  obtain ⟨i0, hi, hz0, hz1, hz2⟩ := info_parts info5
  have HL : Hid (l.length = len) := hL
  clear hL
  go_enter Tryz.func105, Tryz.ntmps105
  go_wp2
  go_loopw [3, 4] (fun v i wr => ∃ k : Nat, k ≤ len ∧ i = .int .i64 k ∧ Owns wr w.heap.size v (l.take k) ∧ Below w.heap.size w wr) (fun _ i _ => len - (intOf i).toNat)
  case atStart => exact ⟨0, Nat.zero_le _, rfl, World.ownsRow_nil _ _ _ _, Below.refl _ _⟩
  case round =>
    obtain ⟨k, hk, rfl, hown, hbel⟩ := hrel
    by_cases hlt : k < len
    · rcases ha with rfl | hnil
      case inr => exact absurd HL.out (by rw [hnil]; simp; omega)
      have hcell : wr.cell? ⟨b, off + k, none⟩ = some (.int .u8 (l.getD k 0)) := cell_later hbel (hs k (by rw [HL.out]; omega))
      have htl : Hid ((l.take k).length = k) := by show _ = _; rw [List.length_take, HL.out]; omega
      have hts : Hid (l.take (k + 1) = l.take k ++ [l.getD k 0]) := take_snoc l k (by rw [HL.out]; omega)
      have hsz := hbel.size
      generalize hC : l.getD k 0 = c at *
      clear hC
      have hown2 : (wr.alloc (.cells #[.int .u8 c] 5)).ownsRow w.heap.size 5 1 _ (l.take k).length ((l.take k).map (Value.int .u8)) := World.ownsRow.alloc hown _
      go_wp2_with (at_builtin; refine wpList_append_own _ rfl _ _ 39 rfl w.heap.size 5 i0 (.int .u8 0) 1 1 Tryz.underlying39 hi hz0 hz1 hz2 rfl (by decide) _ _ _ rfl hown2 ⟨wr.heap.size, 0, none⟩ 1 1 [.int .u8 c] rfl rfl ?c1 ?c2 ?c3 ?c4 ?c5 ?_)
      case c1 =>
        intro j u hj
        match j, hj with
        | 0, hj => simp at hj; subst hj; simp [Addr.add]
      case c2 => intro u hu; simp at hu; subst hu; rfl
      case c3 => rw [htl.out]; unfold maxLen; omega
      case c4 => rw [htl.out]; omega
      case c5 => simp; omega
      intro v' w1 hown' hgrow _
      have R1 : Owns w1 w.heap.size v' (l.take (k + 1)) := by
        unfold Owns; rw [hts.out]; simpa using hown'
      have R2 : Below w.heap.size w w1 := by
        refine (hbel.alloc hsz _).grown hgrow (by simp; omega) ?_
        intro j hj
        exact (hown.lt j hj).1
      clear hown' hgrow hown2
      go_wp2
      go_roundw
      case rel => exact ⟨k + 1, by omega, by go_num, R1, R2⟩
      case measure => simp [intOf]; omega
    · have hke : k = len := by omega
      subst hke
      have hte : l.take k = l := by rw [List.take_of_length_le]; rw [HL.out]; exact Nat.le_refl _
      rw [hte] at hown
      clear hte
      go_wp2
      go_ret
      exact ⟨_, rfl, hown, hbel⟩

theorem cells_of_sees {w : World} {b off : Nat} {l : List Int} (hs : Sees w b off l) : ∀ j v, (l.map (Value.int .u8))[j]? = some v → w.cell? ((⟨b, off, none⟩ : Addr).add j) = some v := by
  intro j v hv
  rw [add_at]
  by_cases h : j < l.length
  · have := hs j h
    simp [List.getElem?_eq_getElem h] at hv
    rw [this, ← hv]; simp [List.getElem?_eq_getElem h]
  · simp [List.getElem?_eq_none (Nat.le_of_not_lt h)] at hv

theorem ones_cell (l : List Int) : ∀ v ∈ l.map (Value.int .u8), v.oneCell' = true := by
  intro v hv; obtain ⟨z, _, rfl⟩ := List.mem_map.1 hv; rfl

/-- A row of the call's own, its head known. -/
def Holds8 (w : World) (base G len cap : Nat) (L : List Int) : Prop := L.length = len ∧ w.ownsRow base 5 1 (.slice (some ⟨G, 0, none⟩) len cap) len (L.map (Value.int .u8))

theorem Holds8.store {w : World} {base G len cap : Nat} {L : List Int} (h : Holds8 w base G len cap L) (j : Nat) (c : Int) : Holds8 (w.setCell ⟨G, j, none⟩ (.int .u8 c)) base G len cap (L.set j c) :=
  ⟨by simpa using h.1, by rw [List.map_set]; exact (h.2.stored j _).1⟩

theorem Holds8.base {w : World} {base G len cap : Nat} {L : List Int} (h : Holds8 w base G len cap L) : base ≤ G := (h.2.lt G rfl).1

theorem Holds8.cell {w : World} {base G len cap : Nat} {L : List Int} (h : Holds8 w base G len cap L) (j : Nat) (hj : j < len) : w.cell? ⟨G, j, none⟩ = some (.int .u8 (L.getD j 0)) := by
  rw [h.2.cellAt j (by omega)]
  have : j < L.length := by rw [h.1]; exact hj
  simp [List.getElem?_eq_getElem this]

theorem Holds8.owns {w : World} {base G len cap : Nat} {L : List Int} (h : Holds8 w base G len cap L) : Owns w base (.slice (some ⟨G, 0, none⟩) len cap) L := by
  unfold Owns; rw [h.1]; exact h.2

theorem holds8_of_owns {w : World} {base len : Nat} {v : Value} {l : List Int} (h : Owns w base v l) (hl : l.length = len) (hpos : 0 < len) : ∃ G cap, v = .slice (some ⟨G, 0, none⟩) len cap ∧ Holds8 w base G len cap l := by
  subst hl
  rcases h.2 with ⟨_, h0⟩ | ⟨g, cap, cur, rfl, r⟩
  · omega
  · exact ⟨g, cap, rfl, rfl, h⟩

/-- Are two rows of bytes one? -/
def sameB (l m : List Int) : Bool := decide (l = m)

theorem prefix_step (l m : List Int) (k : Nat) (h1 : k < l.length) (h2 : k < m.length) (h : l.take k = m.take k) (he : l.getD k 0 = m.getD k 0) : l.take (k + 1) = m.take (k + 1) := by
  rw [take_snoc l k h1, take_snoc m k h2, h, he]

theorem same_len_ne (l m : List Int) (h : l.length ≠ m.length) : sameB l m = false := by
  unfold sameB; simp; intro e; exact h (by rw [e])

theorem same_getD_ne (l m : List Int) (k : Nat) (h : l.getD k 0 ≠ m.getD k 0) : sameB l m = false := by
  unfold sameB; simp; intro e; exact h (by rw [e])

end Go.Proofs.YtafkkehcacdodaaGreat
