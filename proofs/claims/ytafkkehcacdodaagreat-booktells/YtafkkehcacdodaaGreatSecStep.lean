/- Whole sectors and Writes as single steps of a walk. -/
import Derived.Test.YtafkkehcacdodaaGreatSecMake
import Derived.Great.BuildSlice
import Derived.Deep.WholeRow
set_option maxRecDepth 100000
namespace Go.Proofs.YtafkkehcacdodaaGreat
open Go.RowKit

@[irreducible] def zeroW : Value := .agg (#[.int .i64 0] ++ Array.replicate 64 (.int .u8 0))

theorem infoW0 : (Tryz.prog.info? 105).map (fun i => (i.zero, i.size, i.bytes)) = some (some (.agg (#[.int .i64 0] ++ Array.replicate 64 (.int .u8 0))), 65, 72) := by kernel_rfl

theorem infoW : (Tryz.prog.info? 105).map (fun i => (i.zero, i.size, i.bytes)) = some (some zeroW, 65, 72) := by
  unfold zeroW; exact infoW0

theorem zeroW_cells : zeroW.cells.size = 65 := by unfold zeroW; simp [Value.cells]

theorem sizeC : (Tryz.prog.info? 103).map (·.size) = some 64 := by kernel_rfl

theorem sizeW : (Tryz.prog.info? 105).map (·.size) = some 65 := by kernel_rfl

@[irreducible] def zC : Array Value := Array.replicate 64 (.int .u8 0)
@[irreducible] def zW : Array Value := #[.int .i64 0] ++ Array.replicate 64 (.int .u8 0)

theorem zeroC_zC : zeroC.cells = zC := by unfold zeroC zC; rfl
theorem zeroW_zW : zeroW.cells = zW := by unfold zeroW zW; rfl
theorem zC_size : zC.size = 64 := by rw [← zeroC_zC]; exact zeroC_cells
theorem zW_size : zW.size = 65 := by rw [← zeroW_zW]; exact zeroW_cells

section
variable {ops : Array Oper} {rest : List Oper} {op : Oper} {a : Act} {w : World} {Q : Exit → Act → World → Prop}

theorem run_alloc_c (w : World) : (Instr.alloc 103 true (.tuple #[])).run Tryz.prog w = .ok (.pointer (some ⟨w.heap.size, 0, none⟩)) (w.alloc (.cells zC 103)) := by
  rw [← zeroC_zC]
  obtain ⟨i0, hi, hz0, hz1, hz2⟩ := info_parts infoC'
  simp [Instr.alloc, zeroValue, typeInfo, hi, hz0, newVar, newRow]

theorem run_alloc_w (w : World) : (Instr.alloc 105 true (.tuple #[])).run Tryz.prog w = .ok (.pointer (some ⟨w.heap.size, 0, none⟩)) (w.alloc (.cells zW 105)) := by
  rw [← zeroW_zW]
  obtain ⟨i0, hi, hz0, hz1, hz2⟩ := info_parts infoW
  simp [Instr.alloc, zeroValue, typeInfo, hi, hz0, newVar, newRow]

/-- The making of a sector's variable. -/
theorem alloc_c (hgd : op.guard = none) (ho : op.op = .alloc 103) (h : wpList Tryz.prog ops Q rest (a.put op.dst (.pointer (some ⟨w.heap.size, 0, none⟩))) (w.alloc (.cells zC 103))) : wpList Tryz.prog ops Q (op :: rest) a w :=
  wpList_plain hgd fun _ hK => by
    have hk := hK _ _ h
    unfold Oper.wp execOp
    simp only [ho, Sem.run_bind, run_alloc_c, Result.andThen_ok]
    exact hk

theorem alloc_w (hgd : op.guard = none) (ho : op.op = .alloc 105) (h : wpList Tryz.prog ops Q rest (a.put op.dst (.pointer (some ⟨w.heap.size, 0, none⟩))) (w.alloc (.cells zW 105))) : wpList Tryz.prog ops Q (op :: rest) a w :=
  wpList_plain hgd fun _ hK => by
    have hk := hK _ _ h
    unfold Oper.wp execOp
    simp only [ho, Sem.run_bind, run_alloc_w, Result.andThen_ok]
    exact hk

theorem load_c (hgd : op.guard = none) (x : Operand) (ho : op.op = .load 103 x) (g o : Nat) (hx : a.eval x = .pointer (some ⟨g, o, none⟩)) (L : Array Value) (hr : w.rangeAt g o L.toList) (hL : L.size = 64)
    (h : wpList Tryz.prog ops Q rest (a.put op.dst (.agg L)) w) : wpList Tryz.prog ops Q (op :: rest) a w :=
  wpList_load_mid hgd 103 x ho g o hx L.toList _ hr Tryz.underlying103 rfl (by rw [Array.length_toList, hL]; exact sizeC) h

theorem load_w (hgd : op.guard = none) (x : Operand) (ho : op.op = .load 105 x) (g o : Nat) (hx : a.eval x = .pointer (some ⟨g, o, none⟩)) (L : Array Value) (hr : w.rangeAt g o L.toList) (hL : L.size = 65)
    (h : wpList Tryz.prog ops Q rest (a.put op.dst (.agg L)) w) : wpList Tryz.prog ops Q (op :: rest) a w :=
  wpList_load_mid hgd 105 x ho g o hx L.toList _ hr Tryz.underlying105 rfl (by rw [Array.length_toList, hL]; exact sizeW) h

/-- A whole sector into the variable that was made last. -/
theorem store_c (hgd : op.guard = none) (x y : Operand) (ho : op.op = .store 103 x y) (u : World) (g : Nat) (hg : g = u.heap.size) (hw : w = u.alloc (.cells zC 103)) (C : Array Value)
    (hx : a.eval x = .pointer (some ⟨g, 0, none⟩)) (hy : a.eval y = .agg C) (hC : C.size = 64) (h1 : C.all (·.oneCell') = true)
    (h : wpList Tryz.prog ops Q rest (a.put op.dst undef) (u.alloc (.cells C 103))) : wpList Tryz.prog ops Q (op :: rest) a w := by
  subst hw; subst hg
  refine wpList_plain hgd fun _ hK => ?_
  unfold Oper.wp execOp
  simp only [ho, hx, hy, run_storeAt_new u 103 zC C (by rw [hC]; exact sizeC) (by rw [hC]; exact zC_size) h1, Sem.run_bind, Sem.run_pure, Result.andThen_ok]
  exact hK _ _ h

theorem store_w (hgd : op.guard = none) (x y : Operand) (ho : op.op = .store 105 x y) (u : World) (g : Nat) (hg : g = u.heap.size) (hw : w = u.alloc (.cells zW 105)) (C : Array Value)
    (hx : a.eval x = .pointer (some ⟨g, 0, none⟩)) (hy : a.eval y = .agg C) (hC : C.size = 65) (h1 : C.all (·.oneCell') = true)
    (h : wpList Tryz.prog ops Q rest (a.put op.dst undef) (u.alloc (.cells C 105))) : wpList Tryz.prog ops Q (op :: rest) a w := by
  subst hw; subst hg
  refine wpList_plain hgd fun _ hK => ?_
  unfold Oper.wp execOp
  simp only [ho, hx, hy, run_storeAt_new u 105 zW C (by rw [hC]; exact sizeW) (by rw [hC]; exact zW_size) h1, Sem.run_bind, Sem.run_pure, Result.andThen_ok]
  exact hK _ _ h
end

/-- A Write's cells. -/
@[irreducible] def wArr (k : Nat) (C : Array Value) : Array Value := #[.int .i64 k] ++ C

theorem wArr_size (k : Nat) (C : Array Value) (h : C.size = 64) : (wArr k C).size = 65 := by unfold wArr; simp [h]

theorem wArr_list (k : Nat) (l : List Int) : (wArr k (bytesV l).toArray).toList = wcell (k, l) := by unfold wArr wcell; simp

theorem fill_w (z : Array Value) (hz : z.size = 65) (k : Nat) (C : Array Value) (hC : C.size = 64) (places : Nat → Option (Nat × Nat)) (h0 : places 0 = some (0, 1)) (h1 : places 1 = some (1, 64)) :
    Instr.fill places z [(0, .int .i64 k), (1, .agg C)] = some (wArr k C) := by
  have e0 : (Value.int .i64 (k : Int)).cells = #[.int .i64 k] := rfl
  have e1 : (Value.agg C).cells = C := rfl
  obtain ⟨a1, a2⟩ := Great.foldl_set 0 [.int .i64 k] 0 z
  obtain ⟨b1, b2⟩ := Great.foldl_set 1 C.toList 0 (([.int .i64 (k : Int)].zipIdx 0).foldl (fun cs (x : Value × Nat) => cs.setIfInBounds (0 + x.2) x.1) z)
  unfold Instr.fill
  simp only [h0, e0]
  rw [if_neg (by simp [hz])]
  unfold Instr.fill
  simp only [h1, e1]
  have hs : (Array.foldl (fun cs (x : Value × Nat) => cs.setIfInBounds (0 + x.2) x.1) z (#[Value.int .i64 (k : Int)].zipIdx)) = ([.int .i64 (k : Int)].zipIdx 0).foldl (fun cs (x : Value × Nat) => cs.setIfInBounds (0 + x.2) x.1) z := by simp
  rw [hs]
  rw [if_neg (by rw [a1, hz, hC]; simp)]
  unfold Instr.fill
  have hs2 : ∀ cs0 : Array Value, (Array.foldl (fun cs (x : Value × Nat) => cs.setIfInBounds (1 + x.2) x.1) cs0 C.zipIdx) = (C.toList.zipIdx 0).foldl (fun cs (x : Value × Nat) => cs.setIfInBounds (1 + x.2) x.1) cs0 := by
    intro cs0
    rw [← Array.foldl_toList]; simp
  rw [hs2]
  congr 1
  apply Array.ext_getElem?
  intro j
  rw [b2 j, a1, a2 j, hz]
  unfold wArr
  rw [Array.getElem?_append]
  by_cases hj : j < 1
  · have : j = 0 := by omega
    subst this
    simp
  · by_cases hj2 : j < 65
    · rw [if_pos (by simp [hC]; omega)]
      simp [hj]
    · rw [if_neg (by simp [hC]; omega), if_neg (by simp; omega)]
      rw [Array.getElem?_eq_none (show z.size ≤ j by omega)]
      simp [hj, Array.getElem?_eq_none (show C.size ≤ j - 1 by omega)]

theorem run_build_w (w : World) (k : Nat) (C : Array Value) (hC : C.size = 64) : (Instr.build 105 #[(0, .int .i64 k), (1, .agg C)]).run Tryz.prog w = .ok (.agg (wArr k C)) w := by
  obtain ⟨i0, hi, hz0, hz1, hz2⟩ := info_parts infoW
  have hp : (Tryz.prog.underlying 105).bind (fun d => match d with | .struct fields => fields.toList.mapM (fun f => (Tryz.prog.info? f.type).map fun i => (f.offset, i.size)) | _ => none) = some [(0, 1), (1, 64)] := by kernel_rfl
  refine run_build w _ _ _ ?_
  unfold Program.built
  rw [Tryz.underlying105] at hp ⊢
  simp only [Option.bind_some] at hp
  simp only [hi, hz0, hp]
  exact fill_w _ zeroW_cells k C hC _ rfl rfl

theorem run_buildSlice_w (w : World) (W : Array Value) (hW : W.size = 65) : (Instr.buildSlice 98 1 #[(0, .agg W)]).run Tryz.prog w = .ok (.slice (some ⟨w.heap.size, 0, none⟩) 1 1) (w.alloc (.cells W 105)) := by
  obtain ⟨i0, hi, hz0, hz1, hz2⟩ := info_parts infoW
  refine run_buildSlice w _ _ 1 _ W i0 zeroW Tryz.underlying98 hi hz0 (by rw [hz1]; decide) (by rw [hz1]; decide) ?_
  rw [hz1]
  have := Great.fill_whole (s := 65) (by decide) [.agg W] ((Array.range (1 * 65)).map (zeroW.cells[· % zeroW.cells.size]!)) (by intro v hv; simp at hv; subst hv; exact hW) (by simp)
  simpa [Value.cells] using this

set_option maxHeartbeats 1000000 in
theorem read_no (w : World) (tag : Nat → Nat) (base o : Nat) (s : St) (p : PL) (h : PD w tag base o s p) (k : Int) (hk : hasB s.n k = false) :
    Calls Tryz.prog 63 #[.pointer (some ⟨p.D, 0, none⟩), .int .i64 k] w fun e w' => e = .returned (.tuple #[.slice none 0 0, .int .i64 1]) ∧ w' = w := by
  go_enter Tryz.func63, Tryz.ntmps63
  go_wp2_with (first
    | (go_at_call 41; refine (made_ok _ tag base o s p h).mono ?_; rintro e w' ⟨rfl, rfl⟩)
    | (go_at_call 94; refine (has_ok _ tag base o s p h k).mono ?_; rintro e w' ⟨rfl, rfl⟩))
  go_ret2
  exact ⟨rfl, rfl⟩

/-- A sector's bytes. -/
def sec (l : List Int) (k : Nat) : List Int := (l.drop (k * 64)).take 64

theorem sec_len {l : List Int} {n k : Nat} (h : l.length = n * 64) (hk : k < n) : (sec l k).length = 64 := by
  unfold sec; simp; omega

set_option maxHeartbeats 2000000 in
theorem read_ok (w : World) (tag : Nat → Nat) (base o : Nat) (s : St) (p : PL) (h : PD w tag base o s p) (k : Nat) (hk : k < s.n) :
    Calls Tryz.prog 63 #[.pointer (some ⟨p.D, 0, none⟩), .int .i64 k] w fun e w' => e = .returned (.tuple #[.slice (some ⟨w.heap.size, 0, none⟩) 64 64, .int .i64 0]) ∧ w' = w.alloc (.cells (bytesV (sec s.now k)).toArray 103) := by
  have hb : hasB s.n (k : Int) = true := by unfold hasB; simp; omega
  have h3 := h.d3
  have hr : w.rangeAt p.L (k * 64) (bytesV (sec s.now k)).toArray.toList := by
    have := h.rL.range (k * 64) 64
    simpa [sec, bytesV] using this
  have hC : (bytesV (sec s.now k)).toArray.size = 64 := by simp [sec_len h.ok.nl hk]
  have h1 : (bytesV (sec s.now k)).toArray.all (·.oneCell') = true := all_oneCell_toArray (ones_bytes _)
  have hn2 := h.ok.n2
  have hkI : (k : Int) < (s.n : Int) := by omega
  have HM := made_ok w tag base o s p h
  have HH := has_ok w tag base o s p h k
  clear h
  generalize (bytesV (sec s.now k)).toArray = C at *
  go_enter Tryz.func63, Tryz.ntmps63
  go_wp2_with (first
    | (go_at_call 41; refine HM.mono ?_; rintro e w' ⟨rfl, rfl⟩)
    | (go_at_call 94; refine HH.mono ?_; rintro e w' ⟨rfl, rfl⟩)
    | (refine load_c rfl (.tmp 19) rfl p.L (k * 64) rfl C hr hC ?_)
    | (refine alloc_c rfl rfl ?_)
    | (refine store_c rfl (.tmp 6) (.tmp 20) rfl _ _ rfl rfl C rfl rfl hC h1 ?_))
  go_ret2
  exact ⟨rfl, rfl⟩

end Go.Proofs.YtafkkehcacdodaaGreat
