/- From what the form reads of a datagram to the view that the walks take. -/
import Derived.Test.YtkclbmhhlpdcnaaDoorIpAwake
set_option maxRecDepth 100000
namespace Go.Proofs.YtkclbmhhlpdcnaaDoor
open Go.ChangeShapes Go.WideShapes Go.ChangeAt Go.RowKit

theorem array11 {α : Type} {cs : Array α} (h : cs.size = 11) : ∃ c0 c1 c2 c3 c4 c5 c6 c7 c8 c9 c10, cs = #[c0, c1, c2, c3, c4, c5, c6, c7, c8, c9, c10] := by
  obtain ⟨l⟩ := cs
  match l, h with
  | [c0, c1, c2, c3, c4, c5, c6, c7, c8, c9, c10], _ => exact ⟨c0, c1, c2, c3, c4, c5, c6, c7, c8, c9, c10, rfl⟩

theorem list11 {α : Type} {l : List α} (h : l.length = 11) : ∃ c0 c1 c2 c3 c4 c5 c6 c7 c8 c9 c10, l = [c0, c1, c2, c3, c4, c5, c6, c7, c8, c9, c10] := by
  match l, h with
  | [c0, c1, c2, c3, c4, c5, c6, c7, c8, c9, c10], _ => exact ⟨c0, c1, c2, c3, c4, c5, c6, c7, c8, c9, c10, rfl⟩

theorem u32_of_wf {x : Int} (h : (Lit.int .u32 x).wf = true) : 0 ≤ x ∧ x < 4294967296 := by
  simp [Lit.wf, IntKind.min, IntKind.max, IntKind.signed, IntKind.bits] at h
  omega

theorem cells3 : Tryd.prog.cellsOf 3 = 1 := by kernel_rfl
theorem cells4 : Tryd.prog.cellsOf 4 = 1 := by kernel_rfl
theorem cellsU32 : Tryd.prog.cellsOf 27 = 1 := by kernel_rfl
theorem cellsIP : Tryd.prog.cellsOf 29 = 11 := by kernel_rfl

/-- A datagram, as a Go value may hold it. -/
def IsIp (w : World) (v : Value) : Prop :=
  ∃ (p : Dg) (ao ab : Option Addr) (co cb : Nat), v = ipV p (.slice ao p.opts.length co) (.slice ab p.body.length cb) ∧ p.Ok ∧ Bts w (.slice ao p.opts.length co) p.opts ∧ Bts w (.slice ab p.body.length cb) p.body ∧ p.opts.length ≤ 140737488351232 ∧ p.body.length ≤ 140737488351232

section
variable {H : Type} {enc : TypeId × Value → H} {w : World} {base b0 : Nat} {held : Bool} {r : Reach} {v : Value} {d : DataW H} {ps : List MemPlace}

set_option maxHeartbeats 1000000 in
theorem viewIP (hv : Value.okWide Tryd.prog w r b0 29 v) (h : DataW.Trod enc Tryd.prog w base (fun _ => true) held 29 v d ps) (hw : ∀ n ∈ d.weights Tryd.prog 29, n ≤ reachBytes) : IsIp w v := by
  obtain ⟨cs, rfl, hsz⟩ := okWide_struct Tryd.underlying29 hv
  obtain ⟨c0, c1, c2, c3, c4, c5, c6, c7, c8, c9, c10, rfl⟩ := array11 (hsz.trans cellsIP)
  obtain ⟨fuel, hf⟩ := h
  obtain ⟨xs, n, _, hx, hl, hlen, hfield⟩ := DataW.trod_struct Tryd.underlying29 hf
  obtain ⟨y0, y1, y2, y3, y4, y5, y6, y7, y8, y9, y10, rfl⟩ := list11 hlen
  simp only [Prod.mk.injEq] at hx
  obtain ⟨rfl, rfl⟩ := hx
  have t0 : DataW.trod enc Tryd.prog w base (fun _ => true) held n 3 [c0] = some y0 := by
    have := hfield 0 _ rfl
    simpa [Value.cells, cells3] using this
  have t1 : DataW.trod enc Tryd.prog w base (fun _ => true) held n 3 [c1] = some y1 := by
    have := hfield 1 _ rfl
    simpa [Value.cells, cells3] using this
  have t2 : DataW.trod enc Tryd.prog w base (fun _ => true) held n 4 [c2] = some y2 := by
    have := hfield 2 _ rfl
    simpa [Value.cells, cells4] using this
  have t3 : DataW.trod enc Tryd.prog w base (fun _ => true) held n 4 [c3] = some y3 := by
    have := hfield 3 _ rfl
    simpa [Value.cells, cells4] using this
  have t4 : DataW.trod enc Tryd.prog w base (fun _ => true) held n 3 [c4] = some y4 := by
    have := hfield 4 _ rfl
    simpa [Value.cells, cells3] using this
  have t5 : DataW.trod enc Tryd.prog w base (fun _ => true) held n 3 [c5] = some y5 := by
    have := hfield 5 _ rfl
    simpa [Value.cells, cells3] using this
  have t6 : DataW.trod enc Tryd.prog w base (fun _ => true) held n 3 [c6] = some y6 := by
    have := hfield 6 _ rfl
    simpa [Value.cells, cells3] using this
  have t7 : DataW.trod enc Tryd.prog w base (fun _ => true) held n 27 [c7] = some y7 := by
    have := hfield 7 _ rfl
    simpa [Value.cells, cellsU32] using this
  have t8 : DataW.trod enc Tryd.prog w base (fun _ => true) held n 27 [c8] = some y8 := by
    have := hfield 8 _ rfl
    simpa [Value.cells, cellsU32] using this
  have t9 : DataW.trod enc Tryd.prog w base (fun _ => true) held n 23 [c9] = some y9 := by
    have := hfield 9 _ rfl
    simpa [Value.cells, cells26] using this
  have t10 : DataW.trod enc Tryd.prog w base (fun _ => true) held n 23 [c10] = some y10 := by
    have := hfield 10 _ rfl
    simpa [Value.cells, cells26] using this
  clear hfield hf hl hlen hsz hv
  obtain ⟨z0, e0, rfl, w0⟩ := DataW.trod_int Tryd.underlying3 t0
  obtain ⟨z1, e1, rfl, w1⟩ := DataW.trod_int Tryd.underlying3 t1
  obtain ⟨z2, e2, rfl⟩ := DataW.trod_bool Tryd.underlying4 t2
  obtain ⟨z3, e3, rfl⟩ := DataW.trod_bool Tryd.underlying4 t3
  obtain ⟨z4, e4, rfl, w4⟩ := DataW.trod_int Tryd.underlying3 t4
  obtain ⟨z5, e5, rfl, w5⟩ := DataW.trod_int Tryd.underlying3 t5
  obtain ⟨z6, e6, rfl, w6⟩ := DataW.trod_int Tryd.underlying3 t6
  obtain ⟨z7, e7, rfl, w7⟩ := DataW.trod_int Tryd.underlying27 t7
  obtain ⟨z8, e8, rfl, w8⟩ := DataW.trod_int Tryd.underlying27 t8
  obtain ⟨l9, hl9, hr9⟩ := bts_of_trod Tryd.underlying23 Tryd.underlying5 cells5 bytes5 t9 (fun m hm => hw m (by simp only [DataW.weights, Tryd.underlying29]; exact DataW.weights_mem_each (j := 9) rfl rfl m hm))
  obtain ⟨l10, hl10, hr10⟩ := bts_of_trod Tryd.underlying23 Tryd.underlying5 cells5 bytes5 t10 (fun m hm => hw m (by simp only [DataW.weights, Tryd.underlying29]; exact DataW.weights_mem_each (j := 10) rfl rfl m hm))
  simp at e0 e1 e2 e3 e4 e5 e6 e7 e8
  subst e0 e1 e2 e3 e4 e5 e6 e7 e8
  have q7 := u32_of_wf w7
  have q8 := u32_of_wf w8
  obtain ⟨ao, co, bo, oo, ho1, ho2⟩ := hl9
  obtain ⟨ab, cb, bb, ob, hb1, hb2⟩ := hl10
  subst ho1 hb1
  exact ⟨⟨z0, z1, z2, z3, z4, z5, z6, z7, z8, l9, l10⟩, ao, ab, co, cb, rfl, ⟨q7.1, q7.2, q8.1, q8.2, ho2.2.2.1, hb2.2.2.1⟩, ⟨ao, co, bo, oo, rfl, ho2⟩, ⟨ab, cb, bb, ob, rfl, hb2⟩, hr9, hr10⟩
end
end Go.Proofs.YtkclbmhhlpdcnaaDoor
