/- The contracts of awake and of SameWord at one message; the views of what the statements take. -/
import Derived.Test.YtejknbkleinjbaaIcmpBuild
namespace Go.Proofs.Ytejknbkleinjbaa
open Go.ChangeShapes Go.WideShapes Go.ChangeAt Go.RowKit

def hiW : Wd := ⟨8, 0, 65538, []⟩

theorem hiW_fits : WFits hiW := ⟨by decide, by decide, by decide⟩

theorem hiW_ok : hiW.Ok := ⟨by decide, by decide, by intro z hz; cases hz⟩

theorem hiW_built : builtW hiW = [8, 0, 247, 252, 0, 1, 0, 2] := by decide

theorem bts_lit {w : World} (N : Nat) (l : List Int) (A : Array Value) (t : TypeId) (hA : A = (l.map (Value.int .u8)).toArray) (hN : N = w.heap.size) (hb : isBytes l) (hl : l.length ≤ maxLen) (n : Nat) (hn : n = l.length) : Bts (w.alloc (.cells A t)) (.slice (some ⟨N, 0, none⟩) n n) l := by
  subst hn hN
  refine ⟨_, l.length, w.heap.size, 0, rfl, Nat.le_refl _, hl, hb, .inl rfl, ?_⟩
  intro i hi
  rw [Nat.zero_add, hA, World.cell?_alloc_mark w _ t (0, 0) i]
  simp [List.getElem?_eq_getElem hi]

set_option maxHeartbeats 1000000 in
theorem awake5_any (w : World) : Calls Try.prog 8 #[] w fun e w' => e = .returned (.bool true) ∧ Below w.heap.size w w' := by
  go_enter Try.func8, Try.ntmps8
  go_wp2_with fail
  refine (wbuild_ok hiW none 0 _ hiW_ok hiW_fits (bts_nil _)).mono ?_
  rintro e w2 ⟨v, rfl, hF, hb2⟩
  have hB := hF.bts
  rw [hiW_built] at hB
  obtain ⟨a, n, c, rfl⟩ := hB.shape
  have hL := bts_lit (w := w2) w2.heap.size [8, 0, 247, 252, 0, 1, 0, 2] _ 5 rfl rfl (by unfold isBytes; decide) (by decide) 8 rfl
  have hB' := hB.later (below_alloc w2 (.cells (List.map (Value.int .u8) [8, 0, 247, 252, 0, 1, 0, 2]).toArray 5))
  clear hF hB
  go_wp2_with fail
  refine (same_one _ _ _ _ (by exact hB') (by exact hL)).mono ?_
  rintro e w3 ⟨rfl, nq, rfl⟩
  go_wp2
  go_ret
  exact ⟨rfl, below_drewN (below_trans (below_trans (by first | exact Below.refl _ _ | exact below_alloc _ _) hb2) (below_alloc _ _)) _⟩

set_option maxHeartbeats 2000000 in
theorem wsame_one (m : Wd) (v v' : Value) (w : World) (h : Bts w v m.data) (h' : Bts w v' m.data) :
    Calls Try.prog 13 #[wdV m v, wdV m v'] w fun e w' => e = .returned (.bool true) ∧ Below w.heap.size w w' := by
  have hb2 := below_trans (below_alloc w (.cells (wdC m v) 26)) (below_alloc _ (.cells (wdC m v') 26))
  have g1 := h.later hb2
  have g2 := h'.later hb2
  obtain ⟨a1, n1, k1, rfl⟩ := h.shape
  obtain ⟨a2, n2, k2, rfl⟩ := h'.shape
  clear h h'
  go_enter Try.func13, Try.ntmps13
  go_wp2_with fail
  refine (same_one _ _ _ _ (by exact g1) (by exact g2)).mono ?_
  rintro e w1 ⟨rfl, nq, rfl⟩
  go_wp2
  go_ret
  exact ⟨rfl, below_drewN hb2 _⟩

theorem u32_of_wf {x : Int} (h : (Lit.int .u32 x).wf = true) : 0 ≤ x ∧ x < 4294967296 := by
  simp [Lit.wf, IntKind.min, IntKind.max, IntKind.signed, IntKind.bits] at h
  omega

def IsU32 (_ : World) (v : Value) : Prop := ∃ x : Int, v = .int .u32 x ∧ 0 ≤ x ∧ x < 4294967296

/-- A message, as a Go value may hold it. -/
def IsWd (w : World) (v : Value) : Prop :=
  ∃ (m : Wd) (a : Option Addr) (c : Nat), v = wdV m (.slice a m.data.length c) ∧ m.Ok ∧ Bts w (.slice a m.data.length c) m.data ∧ m.data.length ≤ 140737488351232

theorem cellsWd : Try.prog.cellsOf 26 = 4 := by kernel_rfl

section
variable {H : Type} {enc : TypeId × Value → H} {w : World} {base b0 : Nat} {held : Bool} {r : Reach} {v : Value} {d : DataW H} {ps : List MemPlace}

set_option maxRecDepth 100000 in
theorem viewU32 (hv : Value.okWide Try.prog w r b0 23 v) (h : DataW.Trod enc Try.prog w base (fun _ => true) held 23 v d ps) (_ : ∀ n ∈ d.weights Try.prog 23, n ≤ reachBytes) : IsU32 w v := by
  obtain ⟨x, rfl, rfl, rfl, wx⟩ := open_int Try.underlying23 hv h
  exact ⟨x, rfl, u32_of_wf wx⟩

set_option maxRecDepth 100000 in
theorem viewWd (hv : Value.okWide Try.prog w r b0 26 v) (h : DataW.Trod enc Try.prog w base (fun _ => true) held 26 v d ps) (hw : ∀ n ∈ d.weights Try.prog 26, n ≤ reachBytes) : IsWd w v := by
  obtain ⟨c0, c1, c2, c3, y0, y1, y2, y3, m, rfl, rfl, rfl, hy0, hy1, hy2, hy3⟩ := Go.Joins.open_agg4 Try.underlying26 (by kernel_rfl) cellsWd hv h
  obtain ⟨l, hl, hr⟩ := bts_of_trod Try.underlying24 Try.underlying5 cells5 bytes5 hy3 (fun n hn => hw n (by simp only [DataW.weights, Try.underlying26]; exact DataW.weights_mem_each (j := 3) rfl rfl n hn))
  obtain ⟨t, e0, rfl, w0⟩ := DataW.trod_int Try.underlying3 hy0
  obtain ⟨k, e1, rfl, w1⟩ := DataW.trod_int Try.underlying3 hy1
  obtain ⟨x, e2, rfl, w2⟩ := DataW.trod_int Try.underlying23 hy2
  simp at e0 e1 e2
  subst e0 e1 e2
  have q := u32_of_wf w2
  have hb := hl.bytes
  obtain ⟨a, c, b, o, h1, h2⟩ := hl
  subst h1
  exact ⟨⟨t, k, x, l⟩, a, c, rfl, ⟨q.1, q.2, hb⟩, ⟨a, c, b, o, rfl, h2⟩, hr⟩
end
end Go.Proofs.Ytejknbkleinjbaa
