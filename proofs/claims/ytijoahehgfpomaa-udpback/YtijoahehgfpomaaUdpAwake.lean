/- The contracts of awake and of SameDatagram at one datagram; the views of what the statements take. -/
import Derived.Test.YtijoahehgfpomaaUdpBuild
namespace Go.Proofs.Ytijoahehgfpomaa
open Go.ChangeShapes Go.WideShapes Go.ChangeAt Go.RowKit

theorem sees_mark (w : World) (N : Nat) (A : Array Value) (t : TypeId) (m : Nat × Nat) (l : List Int) (hA : A = (l.map (Value.int .u8)).toArray) (hN : N = w.heap.size) : Sees (w.alloc (.cells A t m)) N 0 l := by
  intro i hi
  rw [Nat.zero_add, hA]
  rw [Go.Joins.cell_alloc_mark_at _ _ _ _ _ _ hN]
  simp [List.getElem?_eq_getElem hi]

theorem conv_bytes (w : World) (C : Array Value) (n c g : Nat) (hg : g = w.heap.size) :
    (convert 23 23 (.slice (some ⟨g, 0, none⟩) n c)).run Try.prog (w.alloc (.cells C 5)) = .ok (.slice (some ⟨g, 0, none⟩) n c) (w.alloc (.cells C 5 (C.size, C.size + 1))) :=
  Go.Joins.run_convert_bytes_const_at w 23 5 C n c g hg Try.underlying23 Try.underlying5

def hiU : Ud := ⟨1000, 53, false, [104, 105]⟩

theorem hi_fits : UFits hiU := ⟨by decide, by decide, by decide⟩

theorem hi_bts (w : World) (N : Nat) (hN : N = w.heap.size) : Bts (w.alloc (.cells #[.int .u8 104, .int .u8 105] 5 (2, 3))) (.slice (some ⟨N, 0, none⟩) 2 2) hiU.data :=
  ⟨_, 2, N, 0, rfl, by decide, by decide, (by unfold isBytes; decide), .inl rfl, sees_mark w N _ 5 (2, 3) [104, 105] rfl hN⟩

set_option maxHeartbeats 1000000 in
theorem awake3_any (w : World) : Calls Try.prog 9 #[] w fun e w' => e = .returned (.bool true) ∧ Below w.heap.size w w' := by
  have hcv := conv_bytes
  go_enter Try.func9, Try.ntmps9
  go_wp2_with fail
  clear hcv
  refine (ubuild_ok 167772161 134744072 hiU (some ⟨w.heap.size, 0, none⟩) 2 _ (by decide) (by decide) (by decide) (by decide) hi_fits (hi_bts w _ rfl)).mono ?_
  rintro e w2 ⟨v, rfl, ⟨g, cap, rfl, -, h3, h4, -, hs, -⟩, hb2⟩
  rw [builtU_length] at h3 ⊢
  have c0 : w2.cell? ⟨g, 0, none⟩ = some (.int .u8 3) := hs 0 (by rw [builtU_length]; decide)
  have c1 : w2.cell? ⟨g, 1, none⟩ = some (.int .u8 232) := hs 1 (by rw [builtU_length]; decide)
  have hl : 8 + hiU.data.length = 10 := rfl
  rw [hl] at h3 ⊢
  clear hs hl
  go_wp2
  go_ret
  exact ⟨rfl, below_trans (below_alloc _ _) hb2⟩

set_option maxHeartbeats 2000000 in
theorem usame_one (u : Ud) (v v' : Value) (w : World) (h : Bts w v u.data) (h' : Bts w v' u.data) :
    Calls Try.prog 12 #[udV u v, udV u v'] w fun e w' => e = .returned (.bool true) ∧ Below w.heap.size w w' := by
  have hb2 := below_trans (below_alloc w (.cells (udC u v) 25)) (below_alloc _ (.cells (udC u v') 25))
  have g1 := h.later hb2
  have g2 := h'.later hb2
  obtain ⟨a1, n1, k1, rfl⟩ := h.shape
  obtain ⟨a2, n2, k2, rfl⟩ := h'.shape
  clear h h'
  go_enter Try.func12, Try.ntmps12
  go_wp2_with fail
  refine (same_one _ _ _ _ (by exact g1) (by exact g2)).mono ?_
  rintro e w1 ⟨rfl, nq, rfl⟩
  go_wp2
  go_ret
  exact ⟨rfl, below_drewN hb2 _⟩

theorem u32_of_wf {x : Int} (h : (Lit.int .u32 x).wf = true) : 0 ≤ x ∧ x < 4294967296 := by
  simp [Lit.wf, IntKind.min, IntKind.max, IntKind.signed, IntKind.bits] at h
  omega

def IsU32 (_ : World) (v : Value) : Prop := ∃ x : Int, v = .int .u32 x ∧ 0 ≤ x ∧ x < 4294967296

@[reducible] def sentV (s d : Int) (u : Ud) (vd : Value) : Value := .agg #[.int .u32 s, .int .u32 d, .int .i64 u.src, .int .i64 u.dst, .bool u.bare, vd]

@[reducible] def sentC (s d : Int) (u : Ud) (vd : Value) : Array Value := #[.int .u32 s, .int .u32 d, .int .i64 u.src, .int .i64 u.dst, .bool u.bare, vd]

/-- A datagram between two addresses, as a Go value may hold it. -/
def IsSent (w : World) (v : Value) : Prop :=
  ∃ (s d : Int) (u : Ud) (a : Option Addr) (c : Nat), v = sentV s d u (.slice a u.data.length c) ∧ 0 ≤ s ∧ s < 4294967296 ∧ 0 ≤ d ∧ d < 4294967296 ∧ Bts w (.slice a u.data.length c) u.data ∧ u.data.length ≤ 140737488351232

theorem array6 {α : Type} {cs : Array α} (h : cs.size = 6) : ∃ c0 c1 c2 c3 c4 c5, cs = #[c0, c1, c2, c3, c4, c5] := by
  obtain ⟨l⟩ := cs
  match l, h with
  | [c0, c1, c2, c3, c4, c5], _ => exact ⟨c0, c1, c2, c3, c4, c5, rfl⟩

theorem list3 {α : Type} {l : List α} (h : l.length = 3) : ∃ c0 c1 c2, l = [c0, c1, c2] := by
  match l, h with
  | [c0, c1, c2], _ => exact ⟨c0, c1, c2, rfl⟩

theorem list4 {α : Type} {l : List α} (h : l.length = 4) : ∃ c0 c1 c2 c3, l = [c0, c1, c2, c3] := by
  match l, h with
  | [c0, c1, c2, c3], _ => exact ⟨c0, c1, c2, c3, rfl⟩

theorem cells3 : Try.prog.cellsOf 3 = 1 := by kernel_rfl
theorem cells4 : Try.prog.cellsOf 4 = 1 := by kernel_rfl
theorem cellsU32 : Try.prog.cellsOf 29 = 1 := by kernel_rfl
theorem cellsUd : Try.prog.cellsOf 25 = 4 := by kernel_rfl
theorem cellsSent : Try.prog.cellsOf 37 = 6 := by kernel_rfl

section
variable {H : Type} {enc : TypeId × Value → H} {w : World} {base b0 : Nat} {held : Bool} {r : Reach} {v : Value} {d : DataW H} {ps : List MemPlace}

set_option maxRecDepth 100000 in
theorem viewU32 (hv : Value.okWide Try.prog w r b0 29 v) (h : DataW.Trod enc Try.prog w base (fun _ => true) held 29 v d ps) (_ : ∀ n ∈ d.weights Try.prog 29, n ≤ reachBytes) : IsU32 w v := by
  obtain ⟨x, rfl, rfl, rfl, wx⟩ := open_int Try.underlying29 hv h
  exact ⟨x, rfl, u32_of_wf wx⟩

set_option maxHeartbeats 1000000 in
theorem viewSent (hv : Value.okWide Try.prog w r b0 37 v) (h : DataW.Trod enc Try.prog w base (fun _ => true) held 37 v d ps) (hw : ∀ n ∈ d.weights Try.prog 37, n ≤ reachBytes) : IsSent w v := by
  obtain ⟨cs, rfl, hsz⟩ := okWide_struct Try.underlying37 hv
  obtain ⟨c0, c1, c2, c3, c4, c5, rfl⟩ := array6 (hsz.trans cellsSent)
  obtain ⟨fuel, hf⟩ := h
  obtain ⟨xs, n, _, hx, hl, hlen, hfield⟩ := DataW.trod_struct Try.underlying37 hf
  obtain ⟨y0, y1, y2, rfl⟩ := list3 hlen
  simp only [Prod.mk.injEq] at hx
  obtain ⟨rfl, rfl⟩ := hx
  have t0 : DataW.trod enc Try.prog w base (fun _ => true) held n 29 [c0] = some y0 := by
    have := hfield 0 _ rfl
    simpa [Value.cells, cellsU32] using this
  have t1 : DataW.trod enc Try.prog w base (fun _ => true) held n 29 [c1] = some y1 := by
    have := hfield 1 _ rfl
    simpa [Value.cells, cellsU32] using this
  have t2 : DataW.trod enc Try.prog w base (fun _ => true) held n 25 [c2, c3, c4, c5] = some y2 := by
    have := hfield 2 _ rfl
    simpa [Value.cells, cellsUd] using this
  clear hfield hf hl hlen hsz hv
  obtain ⟨xs, n', _, hx, hl, hlen, hfield⟩ := DataW.trod_struct Try.underlying25 t2
  obtain ⟨z0, z1, z2, z3, rfl⟩ := list4 hlen
  have u0 : DataW.trod enc Try.prog w base (fun _ => true) held n' 3 [c2] = some z0 := by
    have := hfield 0 _ rfl
    simpa [Value.cells, cells3] using this
  have u1 : DataW.trod enc Try.prog w base (fun _ => true) held n' 3 [c3] = some z1 := by
    have := hfield 1 _ rfl
    simpa [Value.cells, cells3] using this
  have u2 : DataW.trod enc Try.prog w base (fun _ => true) held n' 4 [c4] = some z2 := by
    have := hfield 2 _ rfl
    simpa [Value.cells, cells4] using this
  have u3 : DataW.trod enc Try.prog w base (fun _ => true) held n' 23 [c5] = some z3 := by
    have := hfield 3 _ rfl
    simpa [Value.cells, cells26] using this
  subst hx
  obtain ⟨x0, e0, rfl, w0⟩ := DataW.trod_int Try.underlying29 t0
  obtain ⟨x1, e1, rfl, w1⟩ := DataW.trod_int Try.underlying29 t1
  obtain ⟨x2, e2, rfl, w2⟩ := DataW.trod_int Try.underlying3 u0
  obtain ⟨x3, e3, rfl, w3⟩ := DataW.trod_int Try.underlying3 u1
  obtain ⟨x4, e4, rfl⟩ := DataW.trod_bool Try.underlying4 u2
  obtain ⟨l, hl5, hr5⟩ := bts_of_trod Try.underlying23 Try.underlying5 cells5 bytes5 u3 (fun m hm => hw m (by simp only [DataW.weights, Try.underlying37]; exact DataW.weights_mem_each (j := 2) rfl rfl m (by simp only [DataW.weights, Try.underlying25]; exact DataW.weights_mem_each (j := 3) rfl rfl m hm)))
  simp at e0 e1 e2 e3 e4
  subst e0 e1 e2 e3 e4
  have q0 := u32_of_wf w0
  have q1 := u32_of_wf w1
  obtain ⟨a, c, b, o, h1, h2⟩ := hl5
  subst h1
  exact ⟨x0, x1, ⟨x2, x3, x4, l⟩, a, c, rfl, q0.1, q0.2, q1.1, q1.2, ⟨a, c, b, o, rfl, h2⟩, hr5⟩
end
end Go.Proofs.Ytijoahehgfpomaa
