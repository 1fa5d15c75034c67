/- The contracts of awake, small and of SamePiece at one segment; the views of what the statements take. -/
import Derived.Test.YtgeeoggbijimoaaTcpBuild2
import Derived.Test.YtgeeoggbijimoaaOpen
namespace Go.Proofs.Ytgeeoggbijimoaa
open Go.ChangeShapes Go.WideShapes Go.ChangeAt Go.RowKit

def synP : Pc := ⟨5, 21, 1, 0, 2, 0, 0, [], []⟩

theorem syn_arg : TArg synP := ⟨by decide, by decide, by decide, by decide, by decide, by decide, by decide⟩

theorem syn_fits : TFits synP := ⟨syn_arg, by decide⟩

theorem syn_ok : synP.Ok := ⟨by decide, by decide, by decide, by decide, by decide, by decide, (by unfold isBytes; decide), (by unfold isBytes; decide)⟩

theorem syn_length : (builtT 16843009 33686018 synP).length = 20 := by rw [builtT_length]; rfl

set_option maxHeartbeats 1000000 in
theorem awake4_any (w : World) : Calls Try.prog 8 #[] w fun e w' => e = .returned (.bool true) ∧ Below w.heap.size w w' := by
  go_enter Try.func8, Try.ntmps8
  go_wp2_with fail
  refine (tbuild_ok 16843009 33686018 synP none none 0 0 _ (by decide) (by decide) (by decide) (by decide) syn_ok syn_fits (bts_nil _) (bts_nil _)).mono ?_
  rintro e w2 ⟨v, rfl, ⟨g, cap, rfl, -, h3, h4, -, hs, -⟩, hb2⟩
  rw [syn_length] at h3 ⊢
  have c0 : w2.cell? ⟨g, 12, none⟩ = some (.int .u8 80) := hs 12 (by rw [syn_length]; decide)
  have c1 : w2.cell? ⟨g, 13, none⟩ = some (.int .u8 2) := hs 13 (by rw [syn_length]; decide)
  clear hs
  go_wp2
  go_ret
  exact ⟨rfl, hb2⟩

set_option maxHeartbeats 2000000 in
theorem tsame_one (p : Pc) (vo vo' v v' : Value) (w : World) (ho : Bts w vo p.opts) (ho' : Bts w vo' p.opts) (h : Bts w v p.data) (h' : Bts w v' p.data) :
    Calls Try.prog 13 #[pcV p vo v, pcV p vo' v'] w fun e w' => e = .returned (.bool true) ∧ Below w.heap.size w w' := by
  have hb2 := below_trans (below_alloc w (.cells (pcC p vo v) 29)) (below_alloc _ (.cells (pcC p vo' v') 29))
  have g1 := h.later hb2
  have g2 := h'.later hb2
  have f1 := ho.later hb2
  have f2 := ho'.later hb2
  obtain ⟨a1, n1, k1, rfl⟩ := h.shape
  obtain ⟨a2, n2, k2, rfl⟩ := h'.shape
  obtain ⟨a3, n3, k3, rfl⟩ := ho.shape
  obtain ⟨a4, n4, k4, rfl⟩ := ho'.shape
  clear h h' ho ho'
  go_enter Try.func13, Try.ntmps13
  go_wp2_with fail
  refine (same_one _ _ _ _ (by exact f1) (by exact f2)).mono ?_
  rintro e w1 ⟨rfl, nq, rfl⟩
  go_wp2_with fail
  refine (same_one _ _ _ _ (by exact bts_drewN g1 _) (by exact bts_drewN g2 _)).mono ?_
  rintro e w1 ⟨rfl, nq', rfl⟩
  go_wp2
  go_ret
  exact ⟨rfl, below_drewN hb2 _⟩

@[reducible] def sentTV (s d : Int) (p : Pc) (vo vd : Value) : Value := .agg #[.int .u32 s, .int .u32 d, .int .i64 p.src, .int .i64 p.dst, .int .u32 p.seq, .int .u32 p.ack, .int .i64 p.flags, .int .i64 p.window, .int .i64 p.urgent, vo, vd]

@[reducible] def sentTC (s d : Int) (p : Pc) (vo vd : Value) : Array Value := #[.int .u32 s, .int .u32 d, .int .i64 p.src, .int .i64 p.dst, .int .u32 p.seq, .int .u32 p.ack, .int .i64 p.flags, .int .i64 p.window, .int .i64 p.urgent, vo, vd]

theorem boxesT {w w' : World} {s d : Int} {p : Pc} {vo vd : Value} {t : TypeId} (hb : Below (w.alloc (.cells (sentTC s d p vo vd) t)).heap.size (w.alloc (.cells (sentTC s d p vo vd) t)) w') :
    w'.cell? ⟨w.heap.size, 0, none⟩ = some (.int .u32 s) ∧ w'.cell? ⟨w.heap.size, 1, none⟩ = some (.int .u32 d) ∧ w'.cell? ⟨w.heap.size, 2, none⟩ = some (.int .i64 p.src) ∧ w'.cell? ⟨w.heap.size, 3, none⟩ = some (.int .i64 p.dst) ∧ w'.cell? ⟨w.heap.size, 4, none⟩ = some (.int .u32 p.seq) ∧ w'.cell? ⟨w.heap.size, 5, none⟩ = some (.int .u32 p.ack) ∧
      w'.cell? ⟨w.heap.size, 6, none⟩ = some (.int .i64 p.flags) ∧ w'.cell? ⟨w.heap.size, 7, none⟩ = some (.int .i64 p.window) ∧ w'.cell? ⟨w.heap.size, 8, none⟩ = some (.int .i64 p.urgent) ∧ w'.cell? ⟨w.heap.size, 9, none⟩ = some vo ∧ w'.cell? ⟨w.heap.size, 10, none⟩ = some vd :=
  ⟨box_cell hb 0 _ rfl, box_cell hb 1 _ rfl, box_cell hb 2 _ rfl, box_cell hb 3 _ rfl, box_cell hb 4 _ rfl, box_cell hb 5 _ rfl, box_cell hb 6 _ rfl, box_cell hb 7 _ rfl, box_cell hb 8 _ rfl, box_cell hb 9 _ rfl, box_cell hb 10 _ rfl⟩

def smallT (p : Pc) : Bool := decide (p.data.length ≤ 5000) && decide (p.opts.length ≤ 5000)

set_option maxHeartbeats 1000000 in
theorem smallT_any (s d : Int) (p : Pc) (ao ad : Option Addr) (co cd : Nat) (w : World) :
    Calls Try.prog 14 #[sentTV s d p (.slice ao p.opts.length co) (.slice ad p.data.length cd)] w fun e w' => e = .returned (.bool (smallT p)) ∧ Below w.heap.size w w' := by
  by_cases h1 : p.data.length ≤ 5000
  · by_cases h2 : p.opts.length ≤ 5000
    · have a1 : (p.data.length : Int) ≤ 5000 := by omega
      have a2 : (p.opts.length : Int) ≤ 5000 := by omega
      have E : Hid (smallT p = true) := by show _ = _; unfold smallT; simp [h1, h2]
      go_enter Try.func14, Try.ntmps14
      go_wp2
      go_ret
      exact ⟨ret_bool E.out.symm, below_alloc _ _⟩
    · have a1 : (p.data.length : Int) ≤ 5000 := by omega
      have a2 : ¬ (p.opts.length : Int) ≤ 5000 := by omega
      have E : Hid (smallT p = false) := by show _ = _; unfold smallT; simp [h1, h2]
      go_enter Try.func14, Try.ntmps14
      go_wp2
      go_ret
      exact ⟨ret_bool E.out.symm, below_alloc _ _⟩
  · have a1 : ¬ (p.data.length : Int) ≤ 5000 := by omega
    have E : Hid (smallT p = false) := by show _ = _; unfold smallT; simp [h1]
    go_enter Try.func14, Try.ntmps14
    go_wp2
    go_ret
    exact ⟨ret_bool E.out.symm, below_alloc _ _⟩

theorem u32_of_wf {x : Int} (h : (Lit.int .u32 x).wf = true) : 0 ≤ x ∧ x < 4294967296 := by
  simp [Lit.wf, IntKind.min, IntKind.max, IntKind.signed, IntKind.bits] at h
  omega

def IsU32 (_ : World) (v : Value) : Prop := ∃ x : Int, v = .int .u32 x ∧ 0 ≤ x ∧ x < 4294967296

/-- A segment between two addresses, as a Go value may hold it. -/
def IsSentT (w : World) (v : Value) : Prop :=
  ∃ (s d : Int) (p : Pc) (ao ad : Option Addr) (co cd : Nat), v = sentTV s d p (.slice ao p.opts.length co) (.slice ad p.data.length cd) ∧ 0 ≤ s ∧ s < 4294967296 ∧ 0 ≤ d ∧ d < 4294967296 ∧ p.Ok ∧ Bts w (.slice ao p.opts.length co) p.opts ∧ Bts w (.slice ad p.data.length cd) p.data ∧ p.opts.length ≤ 140737488351232 ∧ p.data.length ≤ 140737488351232

theorem array11 {α : Type} {cs : Array α} (h : cs.size = 11) : ∃ c0 c1 c2 c3 c4 c5 c6 c7 c8 c9 c10, cs = #[c0, c1, c2, c3, c4, c5, c6, c7, c8, c9, c10] := by
  obtain ⟨l⟩ := cs
  match l, h with
  | [c0, c1, c2, c3, c4, c5, c6, c7, c8, c9, c10], _ => exact ⟨c0, c1, c2, c3, c4, c5, c6, c7, c8, c9, c10, rfl⟩

theorem list3 {α : Type} {l : List α} (h : l.length = 3) : ∃ c0 c1 c2, l = [c0, c1, c2] := by
  match l, h with
  | [c0, c1, c2], _ => exact ⟨c0, c1, c2, rfl⟩

theorem list9 {α : Type} {l : List α} (h : l.length = 9) : ∃ c0 c1 c2 c3 c4 c5 c6 c7 c8, l = [c0, c1, c2, c3, c4, c5, c6, c7, c8] := by
  match l, h with
  | [c0, c1, c2, c3, c4, c5, c6, c7, c8], _ => exact ⟨c0, c1, c2, c3, c4, c5, c6, c7, c8, rfl⟩

theorem cells3 : Try.prog.cellsOf 3 = 1 := by kernel_rfl

theorem cellsU32 : Try.prog.cellsOf 27 = 1 := by kernel_rfl

theorem cellsPc : Try.prog.cellsOf 29 = 9 := by kernel_rfl

theorem cellsSentT : Try.prog.cellsOf 38 = 11 := by kernel_rfl

section
variable {H : Type} {enc : TypeId × Value → H} {w : World} {base b0 : Nat} {held : Bool} {r : Reach} {v : Value} {d : DataW H} {ps : List MemPlace}

set_option maxRecDepth 100000 in
theorem viewU32 (hv : Value.okWide Try.prog w r b0 27 v) (h : DataW.Trod enc Try.prog w base (fun _ => true) held 27 v d ps) (_ : ∀ n ∈ d.weights Try.prog 27, n ≤ reachBytes) : IsU32 w v := by
  obtain ⟨x, rfl, rfl, rfl, wx⟩ := open_int Try.underlying27 hv h
  exact ⟨x, rfl, u32_of_wf wx⟩

set_option maxHeartbeats 2000000 in
theorem viewSentT (hv : Value.okWide Try.prog w r b0 38 v) (h : DataW.Trod enc Try.prog w base (fun _ => true) held 38 v d ps) (hw : ∀ n ∈ d.weights Try.prog 38, n ≤ reachBytes) : IsSentT w v := by
  obtain ⟨cs, rfl, hsz⟩ := okWide_struct Try.underlying38 hv
  obtain ⟨c0, c1, c2, c3, c4, c5, c6, c7, c8, c9, c10, rfl⟩ := array11 (hsz.trans cellsSentT)
  obtain ⟨fuel, hf⟩ := h
  obtain ⟨xs, n, _, hx, hl, hlen, hfield⟩ := DataW.trod_struct Try.underlying38 hf
  obtain ⟨y0, y1, y2, rfl⟩ := list3 hlen
  simp only [Prod.mk.injEq] at hx
  obtain ⟨rfl, rfl⟩ := hx
  have t0 : DataW.trod enc Try.prog w base (fun _ => true) held n 27 [c0] = some y0 := by
    have := hfield 0 _ rfl
    simpa [Value.cells, cellsU32] using this
  have t1 : DataW.trod enc Try.prog w base (fun _ => true) held n 27 [c1] = some y1 := by
    have := hfield 1 _ rfl
    simpa [Value.cells, cellsU32] using this
  have t2 : DataW.trod enc Try.prog w base (fun _ => true) held n 29 [c2, c3, c4, c5, c6, c7, c8, c9, c10] = some y2 := by
    have := hfield 2 _ rfl
    simpa [Value.cells, cellsPc] using this
  clear hfield hf hl hlen hsz hv
  obtain ⟨xs, n', _, hx, hl, hlen, hfield⟩ := DataW.trod_struct Try.underlying29 t2
  obtain ⟨z0, z1, z2, z3, z4, z5, z6, z7, z8, rfl⟩ := list9 hlen
  have u0 : DataW.trod enc Try.prog w base (fun _ => true) held n' 3 [c2] = some z0 := by
    have := hfield 0 _ rfl
    simpa [Value.cells, cells3] using this
  have u1 : DataW.trod enc Try.prog w base (fun _ => true) held n' 3 [c3] = some z1 := by
    have := hfield 1 _ rfl
    simpa [Value.cells, cells3] using this
  have u2 : DataW.trod enc Try.prog w base (fun _ => true) held n' 27 [c4] = some z2 := by
    have := hfield 2 _ rfl
    simpa [Value.cells, cellsU32] using this
  have u3 : DataW.trod enc Try.prog w base (fun _ => true) held n' 27 [c5] = some z3 := by
    have := hfield 3 _ rfl
    simpa [Value.cells, cellsU32] using this
  have u4 : DataW.trod enc Try.prog w base (fun _ => true) held n' 3 [c6] = some z4 := by
    have := hfield 4 _ rfl
    simpa [Value.cells, cells3] using this
  have u5 : DataW.trod enc Try.prog w base (fun _ => true) held n' 3 [c7] = some z5 := by
    have := hfield 5 _ rfl
    simpa [Value.cells, cells3] using this
  have u6 : DataW.trod enc Try.prog w base (fun _ => true) held n' 3 [c8] = some z6 := by
    have := hfield 6 _ rfl
    simpa [Value.cells, cells3] using this
  have u7 : DataW.trod enc Try.prog w base (fun _ => true) held n' 23 [c9] = some z7 := by
    have := hfield 7 _ rfl
    simpa [Value.cells, cells26] using this
  have u8 : DataW.trod enc Try.prog w base (fun _ => true) held n' 23 [c10] = some z8 := by
    have := hfield 8 _ rfl
    simpa [Value.cells, cells26] using this
  subst hx
  obtain ⟨x0, e0, rfl, w0⟩ := DataW.trod_int Try.underlying27 t0
  obtain ⟨x1, e1, rfl, w1⟩ := DataW.trod_int Try.underlying27 t1
  obtain ⟨x2, e2, rfl, w2⟩ := DataW.trod_int Try.underlying3 u0
  obtain ⟨x3, e3, rfl, w3⟩ := DataW.trod_int Try.underlying3 u1
  obtain ⟨x4, e4, rfl, w4⟩ := DataW.trod_int Try.underlying27 u2
  obtain ⟨x5, e5, rfl, w5⟩ := DataW.trod_int Try.underlying27 u3
  obtain ⟨x6, e6, rfl, w6⟩ := DataW.trod_int Try.underlying3 u4
  obtain ⟨x7, e7, rfl, w7⟩ := DataW.trod_int Try.underlying3 u5
  obtain ⟨x8, e8, rfl, w8⟩ := DataW.trod_int Try.underlying3 u6
  obtain ⟨lo, hl9, hr9⟩ := bts_of_trod Try.underlying23 Try.underlying5 cells5 bytes5 u7 (fun m hm => hw m (by simp only [DataW.weights, Try.underlying38]; exact DataW.weights_mem_each (j := 2) rfl rfl m (by simp only [DataW.weights, Try.underlying29]; exact DataW.weights_mem_each (j := 7) rfl rfl m hm)))
  obtain ⟨ld, hl10, hr10⟩ := bts_of_trod Try.underlying23 Try.underlying5 cells5 bytes5 u8 (fun m hm => hw m (by simp only [DataW.weights, Try.underlying38]; exact DataW.weights_mem_each (j := 2) rfl rfl m (by simp only [DataW.weights, Try.underlying29]; exact DataW.weights_mem_each (j := 8) rfl rfl m hm)))
  simp at e0 e1 e2 e3 e4 e5 e6 e7 e8
  subst e0 e1 e2 e3 e4 e5 e6 e7 e8
  have q0 := u32_of_wf w0
  have q1 := u32_of_wf w1
  have q4 := u32_of_wf w4
  have q5 := u32_of_wf w5
  have q6 := i64_of_wf w6
  have bo := hl9.bytes
  have bd := hl10.bytes
  obtain ⟨a, c, b, o, h1, h2⟩ := hl9
  obtain ⟨a', c', b', o', h1', h2'⟩ := hl10
  subst h1 h1'
  exact ⟨x0, x1, ⟨x2, x3, x4, x5, x6, x7, x8, lo, ld⟩, a, a', c, c', rfl, q0.1, q0.2, q1.1, q1.2, ⟨q4.1, q4.2, q5.1, q5.2, q6.1, q6.2, bo, bd⟩, ⟨a, c, b, o, rfl, h2⟩, ⟨a', c', b', o', rfl, h2'⟩, hr9, hr10⟩
end
end Go.Proofs.Ytgeeoggbijimoaa
