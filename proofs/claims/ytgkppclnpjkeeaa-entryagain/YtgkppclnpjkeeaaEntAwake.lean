/- The contract of awake; the view of an entry that the statements take. -/
import Derived.Test.YtgkppclnpjkeeaaEntEnc
import Derived.Test.YtgkppclnpjkeeaaEntDecA
set_option maxRecDepth 100000
namespace Go.Proofs.Ytgkppclnpjkeeaa
open Go.ChangeShapes Go.WideShapes Go.ChangeAt Go.RowKit

theorem same_e (w : World) (v v' : Value) (l : List Int) (h : Bts w v l) (h' : Bts w v' l) : Calls Try.prog 12 #[v, v'] w fun e w' => e = .returned (.bool true) ∧ ∃ nq, w' = w.drewN nq := by
  obtain ⟨a, c, b, off, rfl, h1, h2, h3, h4, h5⟩ := h
  obtain ⟨a', c', b', off', rfl, h1', h2', h3', h4', h5'⟩ := h'
  have := same_any a a' b off b' off' c c' l l l.length l.length w rfl rfl (Nat.le_trans h1 h2) (Nat.le_trans h1' h2') h4 h5 h4' h5'
  rwa [show sameB l l = true by unfold sameB; simp] at this

theorem draws_e (w : World) (n : Nat) : Below w.heap.size w (w.drewN n) := ⟨rfl, rfl, rfl, Nat.le_refl _, fun _ _ => rfl⟩

theorem lit_e {w : World} (N : Nat) (l : List Int) (A : Array Value) (t : TypeId) (hA : A = (l.map (Value.int .u8)).toArray) (hN : N = w.heap.size) (hb : isBytes l) (hl : l.length ≤ maxLen) (n : Nat) (hn : n = l.length) : Bts (w.alloc (.cells A t)) (.slice (some ⟨N, 0, none⟩) n n) l := by
  subst hn hN
  refine ⟨_, l.length, w.heap.size, 0, rfl, Nat.le_refl _, hl, hb, .inl rfl, ?_⟩
  intro i hi
  rw [Nat.zero_add, hA, World.cell?_alloc_mark w _ t (0, 0) i]
  simp [List.getElem?_eq_getElem hi]

def boot : En := ⟨1, 5, 0, 0, 0⟩

theorem boot_may : boot.May := ⟨by decide, by decide, .inl ⟨rfl, rfl, rfl, rfl⟩⟩

theorem boot_ok : boot.Ok := by constructor <;> decide

theorem boot_bytes : bytesE boot = [1, 0, 0, 0, 0, 0, 0, 0, 5] := by decide

set_option maxHeartbeats 1000000 in
theorem awake9_any (w : World) : Calls Try.prog 8 #[] w fun e w' => e = .returned (.bool true) ∧ Below w.heap.size w w' := by
  go_enter Try.func8, Try.ntmps8
  go_wp2_with fail
  refine (encode_ok boot _ boot_may boot_ok).mono ?_
  rintro e w2 ⟨v, rfl, hF, hb2⟩
  have hB := hF.bts (bytesE_bytes _)
  rw [boot_bytes] at hB
  obtain ⟨a, n, rfl⟩ := owns_shape hF
  have hL := lit_e (w := w2) w2.heap.size [1, 0, 0, 0, 0, 0, 0, 0, 5] _ 5 rfl rfl (by unfold isBytes; decide) (by decide) 9 rfl
  have hB' := hB.later (below_alloc w2 (.cells (List.map (Value.int .u8) [1, 0, 0, 0, 0, 0, 0, 0, 5]).toArray 5))
  have HS := same_e _ _ _ _ hB' hL
  clear hF hB hL hB'
  go_wp2_with fail
  refine (by exact HS : Calls _ _ _ _ _).mono ?_
  rintro e w3 ⟨rfl, nq, rfl⟩
  go_wp2
  go_ret
  exact ⟨rfl, below_trans hb2 (below_trans (below_alloc _ _) (draws_e _ _))⟩

theorem array5 {α : Type} {cs : Array α} (h : cs.size = 5) : ∃ c0 c1 c2 c3 c4, cs = #[c0, c1, c2, c3, c4] := by
  obtain ⟨l⟩ := cs
  match l, h with
  | [c0, c1, c2, c3, c4], _ => exact ⟨c0, c1, c2, c3, c4, rfl⟩

theorem list5 {α : Type} {l : List α} (h : l.length = 5) : ∃ c0 c1 c2 c3 c4, l = [c0, c1, c2, c3, c4] := by
  match l, h with
  | [c0, c1, c2, c3, c4], _ => exact ⟨c0, c1, c2, c3, c4, rfl⟩

theorem u32_bd {x : Int} (h : (Lit.int .u32 x).wf = true) : 0 ≤ x ∧ x < 4294967296 := by
  simp [Lit.wf, IntKind.min, IntKind.max, IntKind.signed, IntKind.bits] at h
  omega

theorem i64_bd {x : Int} (h : (Lit.int .i64 x).wf = true) : -9223372036854775808 ≤ x ∧ x ≤ 9223372036854775807 := by
  simp [Lit.wf, IntKind.min, IntKind.max, IntKind.signed, IntKind.bits] at h
  omega

theorem cells2_e : Try.prog.cellsOf 2 = 1 := by kernel_rfl
theorem cells3_e : Try.prog.cellsOf 3 = 1 := by kernel_rfl
theorem cellsU_e : Try.prog.cellsOf 23 = 1 := by kernel_rfl
theorem cellsEn : Try.prog.cellsOf 25 = 5 := by kernel_rfl

/-- An entry, as a Go value may hold it. -/
def IsEn (_ : World) (v : Value) : Prop := ∃ e : En, v = enV e ∧ e.Ok

section
variable {H : Type} {enc : TypeId × Value → H} {w : World} {base b0 : Nat} {held : Bool} {r : Reach} {v : Value} {d : DataW H} {ps : List MemPlace}

set_option maxHeartbeats 1000000 in
theorem viewEn (hv : Value.okWide Try.prog w r b0 25 v) (h : DataW.Trod enc Try.prog w base (fun _ => true) held 25 v d ps) (_ : ∀ n ∈ d.weights Try.prog 25, n ≤ reachBytes) : IsEn w v := by
  obtain ⟨cs, rfl, hsz⟩ := okWide_struct Try.underlying25 hv
  obtain ⟨c0, c1, c2, c3, c4, rfl⟩ := array5 (hsz.trans cellsEn)
  obtain ⟨fuel, hf⟩ := h
  obtain ⟨xs, n, _, hx, hl, hlen, hfield⟩ := DataW.trod_struct Try.underlying25 hf
  obtain ⟨y0, y1, y2, y3, y4, rfl⟩ := list5 hlen
  have t0 : DataW.trod enc Try.prog w base (fun _ => true) held n 3 [c0] = some y0 := by
    have := hfield 0 _ rfl
    simpa [Value.cells, cells3_e] using this
  have t1 : DataW.trod enc Try.prog w base (fun _ => true) held n 2 [c1] = some y1 := by
    have := hfield 1 _ rfl
    simpa [Value.cells, cells2_e] using this
  have t2 : DataW.trod enc Try.prog w base (fun _ => true) held n 23 [c2] = some y2 := by
    have := hfield 2 _ rfl
    simpa [Value.cells, cellsU_e] using this
  have t3 : DataW.trod enc Try.prog w base (fun _ => true) held n 23 [c3] = some y3 := by
    have := hfield 3 _ rfl
    simpa [Value.cells, cellsU_e] using this
  have t4 : DataW.trod enc Try.prog w base (fun _ => true) held n 3 [c4] = some y4 := by
    have := hfield 4 _ rfl
    simpa [Value.cells, cells3_e] using this
  clear hfield hf hl hlen hsz hv hx
  obtain ⟨z0, e0, rfl, w0⟩ := DataW.trod_int Try.underlying3 t0
  obtain ⟨z1, e1, rfl, w1⟩ := DataW.trod_int Try.underlying2 t1
  obtain ⟨z2, e2, rfl, w2⟩ := DataW.trod_int Try.underlying23 t2
  obtain ⟨z3, e3, rfl, w3⟩ := DataW.trod_int Try.underlying23 t3
  obtain ⟨z4, e4, rfl, w4⟩ := DataW.trod_int Try.underlying3 t4
  simp at e0 e1 e2 e3 e4
  subst e0 e1 e2 e3 e4
  have q0 := i64_bd w0
  have q1 := i64_bd w1
  have q2 := u32_bd w2
  have q3 := u32_bd w3
  have q4 := i64_bd w4
  exact ⟨⟨z0, z1, z2, z3, z4⟩, rfl, ⟨q0.1, q0.2, q1.1, q1.2, q2.1, q2.2, q3.1, q3.2, q4.1, q4.2⟩⟩
end
end Go.Proofs.Ytgkppclnpjkeeaa
