/- A book in memory: the owners of its disk, its strand and itself stand side by side. -/
import Derived.Test.YtafkkehcacdodaaGreatBokTake
import Derived.Test.YtafkkehcacdodaaGreatBokMath
import Derived.Test.YtafkkehcacdodaaGreatTraSame
set_option maxRecDepth 100000
namespace Go.Proofs.YtafkkehcacdodaaGreat
open Go.RowKit

/-- A step by the owners lo to hi. -/
structure StepR (tag tag' : Nat → Nat) (base lo hi : Nat) (w w' : World) : Prop where
  below : Below base w w'
  tags : ∀ k, k < w.heap.size → tag' k = tag k
  kept : ∀ k, k < w.heap.size → (tag k / 16 < lo ∨ hi < tag k / 16) → w'.heap[k]? = w.heap[k]?

section
variable {tag tag' tag'' : Nat → Nat} {base lo hi : Nat} {w w' w'' : World}

theorem StepR.refl (tag : Nat → Nat) (base lo hi : Nat) (w : World) : StepR tag tag base lo hi w w := ⟨Below.refl _ _, fun _ _ => rfl, fun _ _ _ => rfl⟩

theorem StepR.trans (h : StepR tag tag' base lo hi w w') (k : StepR tag' tag'' base lo hi w' w'') : StepR tag tag'' base lo hi w w'' := by
  have hs := h.below.size
  exact ⟨h.below.trans k.below, fun i hi => (k.tags i (by omega)).trans (h.tags i hi), fun i hi hne => (k.kept i (by omega) (by rw [h.tags i hi]; exact hne)).trans (h.kept i hi hne)⟩

theorem StepR.wide {lo' hi' : Nat} (h : StepR tag tag' base lo hi w w') (h1 : lo' ≤ lo) (h2 : hi ≤ hi') : StepR tag tag' base lo' hi' w w' :=
  ⟨h.below, h.tags, fun k hk hne => h.kept k hk (by omega)⟩

theorem Step.range {o : Nat} (h : Step tag tag' base o w w') (h1 : lo ≤ o) (h2 : o ≤ hi) : StepR tag tag' base lo hi w w' :=
  ⟨h.below, h.tags, fun k hk hne => h.kept k hk (by omega)⟩

theorem Step2.range {o o' : Nat} (h : Step2 tag tag' base o o' w w') (h1 : lo ≤ o) (h2 : o ≤ hi) (h3 : lo ≤ o') (h4 : o' ≤ hi) : StepR tag tag' base lo hi w w' :=
  ⟨h.below, h.tags, fun k hk hne => h.kept k hk (by omega) (by omega)⟩

theorem stepR_new (tag : Nat → Nat) (base lo hi : Nat) (hb : base ≤ w.heap.size) (h : Below w.heap.size w w') : StepR tag tag base lo hi w w' :=
  ⟨h.mono hb, fun _ _ => rfl, fun k hk _ => h.block k hk⟩

theorem stepR_clip (tag : Nat → Nat) (base lo hi : Nat) (hb : base ≤ w.heap.size) (h : Below w.heap.size w w') : StepR tag (clip tag w.heap.size) base lo hi w w' :=
  ⟨h.mono hb, fun _ hk => clip_lt _ _ _ hk, fun k hk _ => h.block k hk⟩

theorem PD.otherR {b : Nat} {s : St} {p : PL} (h : PD w tag base b s p) (hb : StepR tag tag' base lo hi w w') (ho : b < lo ∨ hi < b) : PD w' tag' base b s p :=
  h.keep (fun k hk ht => hb.kept k hk (by rw [ht]; exact ho)) hb.tags

theorem MD.otherR {b : Nat} {s : St} {p : ML} (h : MD w tag base b s p) (hb : StepR tag tag' base lo hi w w') (ho : b < lo ∨ hi < b) : MD w' tag' base b s p :=
  h.keep (fun k hk ht => hb.kept k hk (by rw [ht]; exact ho)) hb.tags

theorem PO.otherR {b D : Nat} {t : Sd} {q : SL} (h : PO w tag base b D t q) (hb : StepR tag tag' base lo hi w w') (ho : b < lo ∨ hi < b) : PO w' tag' base b D t q :=
  h.keep (fun k hk ht => hb.kept k hk (by rw [ht]; exact ho)) hb.tags hb.below.size

end

/-- Entries in cells. -/
def eL5 (e : En) : List Value := [.int .i64 e.kind, .int .i64 e.time, .int .u32 e.sub, .int .u32 e.addr, .int .i64 e.block]

theorem eL5_length (e : En) : (eL5 e).length = 5 := rfl

theorem eL5_cells (l : List En) : (l.flatMap eL5).length = l.length * 5 := flat_length eL5_length l

theorem eL5_one (l : List En) : ∀ u ∈ l.flatMap eL5, u.oneCell' = true := by
  intro u hu
  obtain ⟨e, _, hu⟩ := List.mem_flatMap.1 hu
  unfold eL5 at hu
  simp at hu
  rcases hu with rfl | rfl | rfl | rfl | rfl <;> rfl

/-- Where a book lies: itself, its entries, its debts. -/
structure PB (w : World) (tag : Nat → Nat) (base o S : Nat) (L D : List En) (B : Nat) (kv dv : Value) : Prop where
  bB : Blk w B [.pointer (some ⟨S, 0, none⟩), kv, dv]
  wK : Win w 5 kv L.length (L.flatMap eL5)
  wD : Win w 5 dv D.length (D.flatMap eL5)
  tB : tag B = 16 * o + 1 ∧ base ≤ B
  tK : ∀ g, kv.ownBlock = some g → tag g = 16 * o + 2 ∧ base ≤ g
  tD : ∀ g, dv.ownBlock = some g → tag g = 16 * o + 3 ∧ base ≤ g

section
variable {w w' : World} {tag tag' : Nat → Nat} {base o S : Nat} {L D : List En} {B : Nat} {kv dv : Value}

theorem PB.keep (h : PB w tag base o S L D B kv dv) (hk : ∀ k, k < w.heap.size → tag k / 16 = o → w'.heap[k]? = w.heap[k]?) (ht : ∀ k, k < w.heap.size → tag' k = tag k) : PB w' tag' base o S L D B kv dv :=
  ⟨h.bB.same (hk _ h.bB.lt (by have := h.tB.1; omega)), h.wK.same (fun g hg => hk g (h.wK.lt g hg) (by have := (h.tK g hg).1; omega)), h.wD.same (fun g hg => hk g (h.wD.lt g hg) (by have := (h.tD g hg).1; omega)),
    ⟨by rw [ht _ h.bB.lt]; exact h.tB.1, h.tB.2⟩, fun g hg => ⟨by rw [ht _ (h.wK.lt g hg)]; exact (h.tK g hg).1, (h.tK g hg).2⟩, fun g hg => ⟨by rw [ht _ (h.wD.lt g hg)]; exact (h.tD g hg).1, (h.tD g hg).2⟩⟩

theorem PB.otherR {lo hi : Nat} (h : PB w tag base o S L D B kv dv) (hb : StepR tag tag' base lo hi w w') (ho : o < lo ∨ hi < o) : PB w' tag' base o S L D B kv dv :=
  h.keep (fun k hk ht => hb.kept k hk (by rw [ht]; exact ho)) hb.tags

theorem PB.later (h : PB w tag base o S L D B kv dv) (hb : Below w.heap.size w w') : PB w' tag base o S L D B kv dv :=
  h.keep (fun k hk _ => hb.block k hk) (fun _ _ => rfl)

theorem PB.s0 (h : PB w tag base o S L D B kv dv) : w.cell? ⟨B, 0, none⟩ = some (.pointer (some ⟨S, 0, none⟩)) := h.bB.cell 0
theorem PB.s1 (h : PB w tag base o S L D B kv dv) : w.cell? ⟨B, 1, none⟩ = some kv := h.bB.cell 1
theorem PB.s2 (h : PB w tag base o S L D B kv dv) : w.cell? ⟨B, 2, none⟩ = some dv := h.bB.cell 2
theorem PB.fB (h : PB w tag base o S L D B kv dv) (j : Nat) : w.frozen? ⟨B, j, none⟩ = false := h.bB.frozen j

end

theorem win_form {w : World} {size : Nat} {v : Value} {n : Nat} {xs : List Value} (h : Win w size v n xs) : ∃ a c, v = .slice a n c ∧ n ≤ c ∧ c ≤ maxLen := by
  rcases h.2 with ⟨h1, h2⟩ | ⟨g, o, cap, cs, h1, _, h2, h3, _⟩
  · exact ⟨none, 0, by rw [h1, h2], by omega, by decide⟩
  · exact ⟨_, _, h1, h2, h3⟩

/-- A window's entries are seen. -/
theorem win_ens {w : World} {v : Value} {l : List En} (h : Win w 5 v l.length (l.flatMap eL5)) : ∃ B O, Ens w v B O l ∧ (l ≠ [] → v.ownBlock = some B) := by
  rcases h.2 with ⟨h1, h2⟩ | ⟨g, o, cap, cs, h1, hb, h2, h3, h4, h5⟩
  · have hl : l = [] := List.eq_nil_of_length_eq_zero h2
    subst hl
    exact ⟨0, 0, ⟨none, 0, by rw [h1]; rfl, by simp, by decide, .inr rfl, fun i e he => by simp at he⟩, fun hne => absurd rfl hne⟩
  · refine ⟨g, o, ⟨_, cap, h1, h2, h3, .inl rfl, fun i e he => ?_⟩, fun _ => by rw [h1]; rfl⟩
    have hlt := (List.getElem?_eq_some_iff.1 he).1
    have hr := hb.range o (l.length * 5)
    rw [h5] at hr
    have hg : ∀ j, j < 5 → (l.flatMap eL5)[i * 5 + j]? = (eL5 e)[j]? := fun j hj => flat_get eL5_length he hj
    refine ⟨?_, ?_, ?_, ?_, ?_⟩
    · have := hr (i * 5 + 0) (.int .i64 e.kind) (by rw [hg 0 (by omega)]; rfl); simpa using this
    · have := hr (i * 5 + 1) (.int .i64 e.time) (by rw [hg 1 (by omega)]; rfl); rwa [← Nat.add_assoc] at this
    · have := hr (i * 5 + 2) (.int .u32 e.sub) (by rw [hg 2 (by omega)]; rfl); rwa [← Nat.add_assoc] at this
    · have := hr (i * 5 + 3) (.int .u32 e.addr) (by rw [hg 3 (by omega)]; rfl); rwa [← Nat.add_assoc] at this
    · have := hr (i * 5 + 4) (.int .i64 e.block) (by rw [hg 4 (by omega)]; rfl); rwa [← Nat.add_assoc] at this

/-- Entries that a slice shows, in memory that is none of the owners lo to hi. -/
structure Far (w : World) (tag : Nat → Nat) (lo hi : Nat) (v : Value) (l : List En) : Prop where
  win : Win w 5 v l.length (l.flatMap eL5)
  far : ∀ g, v.ownBlock = some g → tag g / 16 < lo ∨ hi < tag g / 16

theorem Far.step {w w' : World} {tag tag' : Nat → Nat} {base lo hi lo' hi' : Nat} {v : Value} {l : List En} (h : Far w tag lo hi v l) (hS : StepR tag tag' base lo' hi' w w') (h1 : lo ≤ lo') (h2 : hi' ≤ hi) : Far w' tag' lo hi v l :=
  ⟨h.win.same (fun g hg => hS.kept g (h.win.lt g hg) (by have := h.far g hg; omega)), fun g hg => by rw [hS.tags g (h.win.lt g hg)]; exact h.far g hg⟩

/-- A book with its strand and its disk, of the owners o, o + 1, o + 2. -/
def BK (w : World) (tag : Nat → Nat) (base o D B : Nat) (b : Bm) : Prop :=
  ∃ p q kv dv, p.D = D ∧ PD w tag base o b.s p ∧ PO w tag base (o + 1) D b.t q ∧ PB w tag base (o + 2) q.S b.L b.D B kv dv

theorem BK.otherR {w w' : World} {tag tag' : Nat → Nat} {base lo hi o D B : Nat} {b : Bm} (h : BK w tag base o D B b) (hb : StepR tag tag' base lo hi w w') (ho : o + 2 < lo ∨ hi < o) : BK w' tag' base o D B b := by
  obtain ⟨p, q, kv, dv, h0, h1, h2, h3⟩ := h
  exact ⟨p, q, kv, dv, h0, h1.otherR hb (by omega), h2.otherR hb (by omega), h3.otherR hb (by omega)⟩

theorem BK.new {w w' : World} {tag : Nat → Nat} {base o D B : Nat} {b : Bm} (h : BK w tag base o D B b) (hb : Below w.heap.size w w') : BK w' (clip tag w.heap.size) base o D B b := by
  obtain ⟨p, q, kv, dv, h0, h1, h2, h3⟩ := h
  exact ⟨p, q, kv, dv, h0, h1.clip hb, h2.clip hb, h3.keep (fun k hk _ => hb.block k hk) (fun k hk => clip_lt _ _ _ hk)⟩

theorem Far.new {w w' : World} {tag : Nat → Nat} {lo hi : Nat} {v : Value} {l : List En} (h : Far w tag lo hi v l) (hb : Below w.heap.size w w') : Far w' (clip tag w.heap.size) lo hi v l :=
  ⟨h.win.later hb, fun g hg => by rw [clip_lt _ _ _ (h.win.lt g hg)]; exact h.far g hg⟩

theorem bmade_nil (w : World) : Calls Tryz.prog 48 #[.pointer none] w fun e w' => e = .returned (.bool false) ∧ w' = w := by
  go_enter Tryz.func48, Tryz.ntmps48
  go_wp2
  go_ret
  exact ⟨rfl, rfl⟩

set_option maxHeartbeats 400000 in
theorem bmade_ok (w : World) (tag : Nat → Nat) (base o D B : Nat) (b : Bm) (h : BK w tag base o D B b) :
    Calls Tryz.prog 48 #[.pointer (some ⟨B, 0, none⟩)] w fun e w' => e = .returned (.bool true) ∧ w' = w := by
  obtain ⟨p, q, kv, dv, _, _, _, h3⟩ := h
  have h0 := h3.s0
  clear h3
  go_enter Tryz.func48, Tryz.ntmps48
  go_wp2
  go_ret
  exact ⟨rfl, rfl⟩

end Go.Proofs.YtafkkehcacdodaaGreat
