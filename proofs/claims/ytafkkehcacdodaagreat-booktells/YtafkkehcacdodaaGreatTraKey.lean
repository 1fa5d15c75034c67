/- A block of an address as a map's key. -/
import Derived.Test.YtafkkehcacdodaaGreatM2
import Derived.Test.YtafkkehcacdodaaGreatOpen
import Derived.Test.YtafkkehcacdodaaGreatTraMap
import Derived.Maps.RangeWalk
import Derived.Maps.OwnSet
import Derived.DeepKeys4
import Derived.Maps.Ext
set_option maxRecDepth 100000
namespace Go.Proofs.YtafkkehcacdodaaGreat
open Go.RowKit Go.Maps

@[reducible] def plV (a k : Int) : Value := .agg #[.int .u32 a, .int .i64 k]

theorem rowPl : 118 < Tryz.prog.types.size := by
  have h : decide (118 < Tryz.prog.types.size) = true := by kernel_rfl
  exact of_decide_eq_true h

theorem keyTPl : Tryz.prog.keyType 118 = true := by kernel_rfl

theorem cellsPl : Tryz.prog.cellsOf 118 = 2 := by kernel_rfl

theorem cellsU_p : Tryz.prog.cellsOf 38 = 1 := by kernel_rfl

theorem cells3_p : Tryz.prog.cellsOf 3 = 1 := by kernel_rfl

theorem lawPl : Keyed Tryz.prog 118 :=
  Keyed.of_law (deep_law_laid laidOut (m := 3) (by omega) rowPl (by kernel_rfl) (by rw [Tryz.underlying118]))

theorem wf_u32 {x : Int} (h0 : 0 ≤ x) (h1 : x < 4294967296) : (Lit.int .u32 x).wf = true := by
  unfold Lit.wf; simp [IntKind.min, IntKind.max, IntKind.signed, IntKind.bits]; omega

theorem wf_i64 {x : Int} (h0 : -9223372036854775808 ≤ x) (h1 : x ≤ 9223372036854775807) : (Lit.int .i64 x).wf = true := by
  unfold Lit.wf; simp [IntKind.min, IntKind.max, IntKind.signed, IntKind.bits]; omega

theorem keyPl {a k : Int} (ha : (Lit.int .u32 a).wf = true) (hk : (Lit.int .i64 k).wf = true) : ∃ l, keyOf Tryz.prog 118 (plV a k) = some l := by
  unfold keyOf
  rw [Tryz.underlying118]
  have hf : (plV a k).formed Tryz.prog 118 = true := by
    unfold Value.formed
    simp only [Tryz.underlying118, cellsPl]
    rfl
  simp only [keyTPl, hf, Bool.and_self, if_true]
  have hn : Tryz.prog.types.size + 1 = (Tryz.prog.types.size - 1) + 1 + 1 := by have := rowPl; omega
  rw [hn]
  generalize Tryz.prog.types.size - 1 = n
  have h1 : Tryz.prog.keyLits (n + 1) 38 [.int .u32 a] = some [.int .u32 a] := by
    unfold Program.keyLits; simp [Tryz.underlying38, ha]
  have h2 : Tryz.prog.keyLits (n + 1) 3 [.int .i64 k] = some [.int .i64 k] := by
    unfold Program.keyLits; simp [Tryz.underlying3, hk]
  unfold Program.keyLits
  simp [Tryz.underlying118, cellsPl, cellsU_p, cells3_p, Value.cells, h1, h2]

theorem key_inv {v : Value} {l : Lit} (h : keyOf Tryz.prog 118 v = some l) : ∃ a k, (Lit.int .u32 a).wf = true ∧ (Lit.int .i64 k).wf = true ∧ v = plV a k := by
  unfold keyOf at h
  rw [Tryz.underlying118] at h
  simp only [keyTPl, Bool.true_and] at h
  split at h
  case isFalse => cases h
  rename_i hf
  unfold Value.formed at hf
  simp only [Tryz.underlying118, cellsPl] at hf
  cases v with
  | agg cs =>
    simp at hf
    obtain ⟨c0, c1, rfl⟩ : ∃ c0 c1, cs = #[c0, c1] := by
      obtain ⟨l⟩ := cs
      match l, hf with
      | [a, b], _ => exact ⟨a, b, rfl⟩
    have hn : Tryz.prog.types.size + 1 = (Tryz.prog.types.size - 1) + 1 + 1 := by have := rowPl; omega
    rw [hn] at h
    generalize Tryz.prog.types.size - 1 = n at h
    unfold Program.keyLits at h
    simp [Tryz.underlying118, cellsPl, cellsU_p, cells3_p, Value.cells] at h
    obtain ⟨l1, h1⟩ : ∃ l1, Tryz.prog.keyLits (n + 1) 38 [c0] = some l1 := by
      cases h1 : Tryz.prog.keyLits (n + 1) 38 [c0] with
      | none => rw [h1] at h; simp at h
      | some l1 => exact ⟨l1, rfl⟩
    obtain ⟨l2, h2⟩ : ∃ l2, Tryz.prog.keyLits (n + 1) 3 [c1] = some l2 := by
      cases h2 : Tryz.prog.keyLits (n + 1) 3 [c1] with
      | none => rw [h1, h2] at h; simp at h
      | some l1 => exact ⟨l1, rfl⟩
    have e1 : ∃ a, c0 = .int .u32 a ∧ (Lit.int .u32 a).wf = true := by
      unfold Program.keyLits at h1
      simp only [Tryz.underlying38] at h1
      cases c0 <;> simp at h1
      obtain ⟨⟨rfl, hw⟩, -⟩ := h1
      exact ⟨_, rfl, hw⟩
    have e2 : ∃ a, c1 = .int .i64 a ∧ (Lit.int .i64 a).wf = true := by
      unfold Program.keyLits at h2
      simp only [Tryz.underlying3] at h2
      cases c1 <;> simp at h2
      obtain ⟨⟨rfl, hw⟩, -⟩ := h2
      exact ⟨_, rfl, hw⟩
    obtain ⟨a, rfl, ha⟩ := e1
    obtain ⟨k, rfl, hk⟩ := e2
    exact ⟨a, k, ha, hk, rfl⟩
  | _ => simp at hf

/-- A block of an address. -/
abbrev Pl := Int × Int

@[reducible] def plK (p : Pl) : Value := plV p.1 p.2

/-- Its numbers are of their kinds. -/
structure OkP (p : Pl) : Prop where
  a0 : 0 ≤ p.1
  a1 : p.1 < 4294967296
  k0 : -9223372036854775808 ≤ p.2
  k1 : p.2 ≤ 9223372036854775807

theorem u32_wf {x : Int} (h : (Lit.int .u32 x).wf = true) : 0 ≤ x ∧ x < 4294967296 := by
  simp [Lit.wf, IntKind.min, IntKind.max, IntKind.signed, IntKind.bits] at h
  omega

theorem placeK : KeyK 118 plK OkP where
  law := lawPl
  has p hp := keyPl (wf_u32 hp.a0 hp.a1) (wf_i64 hp.k0 hp.k1)
  inv v l h := by
    obtain ⟨a, k, ha, hk, rfl⟩ := key_inv h
    have q := i64_of_wf hk
    exact ⟨(a, k), ⟨(u32_wf ha).1, (u32_wf ha).2, q.1, by have := q.2; show k ≤ _; omega⟩, rfl⟩
  inj x y h := by
    injection h with h
    simp at h
    exact Prod.ext h.1 h.2

/-- Subscribers as keys. -/
@[reducible] def subK (x : Int) : Value := .int .u32 x

def OkU (x : Int) : Prop := 0 ≤ x ∧ x < 4294967296

theorem subKey : KeyK 38 subK OkU where
  law := int_keyed Tryz.underlying38
  has x hx := ⟨_, keyOf_int_mk Tryz.underlying38 (wf_u32 hx.1 hx.2)⟩
  inv v l h := by
    obtain ⟨x, rfl, _, hw⟩ := keyOf_int_inv Tryz.underlying38 h
    exact ⟨x, u32_wf hw, rfl⟩
  inj x y h := by injection h

end Go.Proofs.YtafkkehcacdodaaGreat
