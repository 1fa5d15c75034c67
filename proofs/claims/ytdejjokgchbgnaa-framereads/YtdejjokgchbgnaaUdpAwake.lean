/- The contracts of awake and of SameDatagram at one datagram; the views of what the statements take. -/
import Derived.Test.YtdejjokgchbgnaaUdpBuild
set_option maxRecDepth 100000
namespace Go.Proofs.Ytdejjokgchbgnaa
open Go.ChangeShapes Go.WideShapes Go.ChangeAt Go.RowKit

theorem sees_mark (w : World) (N : Nat) (A : Array Value) (t : TypeId) (m : Nat × Nat) (l : List Int) (hA : A = (l.map (Value.int .u8)).toArray) (hN : N = w.heap.size) : Sees (w.alloc (.cells A t m)) N 0 l := by
  intro i hi
  rw [Nat.zero_add, hA]
  rw [Go.Joins.cell_alloc_mark_at _ _ _ _ _ _ hN]
  simp [List.getElem?_eq_getElem hi]

theorem conv_bytes (w : World) (C : Array Value) (n c g : Nat) (hg : g = w.heap.size) :
    (convert 23 23 (.slice (some ⟨g, 0, none⟩) n c)).run Try.prog (w.alloc (.cells C 5)) = .ok (.slice (some ⟨g, 0, none⟩) n c) (w.alloc (.cells C 5 (C.size, C.size + 1))) :=
  Go.Joins.run_convert_bytes_const_at w 23 5 C n c g hg Try.underlying23 Try.underlying5

def hiU : Ud := ⟨1000, 53, false, [104, 105]⟩

theorem hi_fits : UFits hiU := ⟨by decide, by decide, by decide⟩

theorem hi_bts (w : World) (N : Nat) (hN : N = w.heap.size) : Bts (w.alloc (.cells #[.int .u8 104, .int .u8 105] 5 (2, 3))) (.slice (some ⟨N, 0, none⟩) 2 2) hiU.data :=
  ⟨_, 2, N, 0, rfl, by decide, by decide, (by unfold isBytes; decide), .inl rfl, sees_mark w N _ 5 (2, 3) [104, 105] rfl hN⟩

theorem u32_of_wf {x : Int} (h : (Lit.int .u32 x).wf = true) : 0 ≤ x ∧ x < 4294967296 := by
  simp [Lit.wf, IntKind.min, IntKind.max, IntKind.signed, IntKind.bits] at h
  omega

def IsU32 (_ : World) (v : Value) : Prop := ∃ x : Int, v = .int .u32 x ∧ 0 ≤ x ∧ x < 4294967296

@[reducible] def sentV (s d : Int) (u : Ud) (vd : Value) : Value := .agg #[.int .u32 s, .int .u32 d, .int .i64 u.src, .int .i64 u.dst, .bool u.bare, vd]

@[reducible] def sentC (s d : Int) (u : Ud) (vd : Value) : Array Value := #[.int .u32 s, .int .u32 d, .int .i64 u.src, .int .i64 u.dst, .bool u.bare, vd]

/-- A datagram between two addresses, as a Go value may hold it. -/
def IsSent (w : World) (v : Value) : Prop :=
  ∃ (s d : Int) (u : Ud) (a : Option Addr) (c : Nat), v = sentV s d u (.slice a u.data.length c) ∧ 0 ≤ s ∧ s < 4294967296 ∧ 0 ≤ d ∧ d < 4294967296 ∧ Bts w (.slice a u.data.length c) u.data ∧ u.data.length ≤ 140737488351232

theorem array6 {α : Type} {cs : Array α} (h : cs.size = 6) : ∃ c0 c1 c2 c3 c4 c5, cs = #[c0, c1, c2, c3, c4, c5] := by
  obtain ⟨l⟩ := cs
  match l, h with
  | [c0, c1, c2, c3, c4, c5], _ => exact ⟨c0, c1, c2, c3, c4, c5, rfl⟩

theorem list3 {α : Type} {l : List α} (h : l.length = 3) : ∃ c0 c1 c2, l = [c0, c1, c2] := by
  match l, h with
  | [c0, c1, c2], _ => exact ⟨c0, c1, c2, rfl⟩

theorem list4 {α : Type} {l : List α} (h : l.length = 4) : ∃ c0 c1 c2 c3, l = [c0, c1, c2, c3] := by
  match l, h with
  | [c0, c1, c2, c3], _ => exact ⟨c0, c1, c2, c3, rfl⟩

section
variable {H : Type} {enc : TypeId × Value → H} {w : World} {base b0 : Nat} {held : Bool} {r : Reach} {v : Value} {d : DataW H} {ps : List MemPlace}

set_option maxRecDepth 100000 in
theorem viewU32 (hv : Value.okWide Try.prog w r b0 25 v) (h : DataW.Trod enc Try.prog w base (fun _ => true) held 25 v d ps) (_ : ∀ n ∈ d.weights Try.prog 25, n ≤ reachBytes) : IsU32 w v := by
  obtain ⟨x, rfl, rfl, rfl, wx⟩ := open_int Try.underlying25 hv h
  exact ⟨x, rfl, u32_of_wf wx⟩
