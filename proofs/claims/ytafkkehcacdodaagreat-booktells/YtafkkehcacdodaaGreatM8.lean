/- Whole sectors and Writes as single steps of a walk. -/
import Derived.Test.YtafkkehcacdodaaGreatM7
import Derived.Great.BuildSlice
import Derived.Deep.WholeRow
import Derived.Deep.RegionHeld3
import Derived.Deep.RegionLaw
import Derived.Test.YtafkkehcacdodaaGreatM2
import Derived.Test.YtafkkehcacdodaaGreatPut
set_option maxRecDepth 100000
namespace Go.Proofs.YtafkkehcacdodaaGreat
open Go.RowKit

@[irreducible] def zeroW : Value := .agg (#[.int .i64 0] ++ Array.replicate 64 (.int .u8 0))

theorem infoW0 : (Tryz.prog.info? 105).map (fun i => (i.zero, i.size, i.bytes)) = some (some (.agg (#[.int .i64 0] ++ Array.replicate 64 (.int .u8 0))), 65, 72) := by kernel_rfl

theorem infoW : (Tryz.prog.info? 105).map (fun i => (i.zero, i.size, i.bytes)) = some (some zeroW, 65, 72) := by
  unfold zeroW; exact infoW0

theorem zeroW_cells : zeroW.cells.size = 65 := by unfold zeroW; simp [Value.cells]

theorem sizeC : (Tryz.prog.info? 103).map (·.size) = some 64 := by kernel_rfl

theorem sizeW : (Tryz.prog.info? 105).map (·.size) = some 65 := by kernel_rfl

@[irreducible] def zC : Array Value := Array.replicate 64 (.int .u8 0)
@[irreducible] def zW : Array Value := #[.int .i64 0] ++ Array.replicate 64 (.int .u8 0)

theorem zeroC_zC : zeroC.cells = zC := by unfold zeroC zC; rfl
theorem zeroW_zW : zeroW.cells = zW := by unfold zeroW zW; rfl
theorem zC_size : zC.size = 64 := by rw [← zeroC_zC]; exact zeroC_cells
theorem zW_size : zW.size = 65 := by rw [← zeroW_zW]; exact zeroW_cells

section
variable {ops : Array Oper} {rest : List Oper} {op : Oper} {a : Act} {w : World} {Q : Exit → Act → World → Prop}

theorem run_alloc_c (w : World) : (Instr.alloc 103 true (.tuple #[])).run Tryz.prog w = .ok (.pointer (some ⟨w.heap.size, 0, none⟩)) (w.alloc (.cells zC 103)) := by
  rw [← zeroC_zC]
  obtain ⟨i0, hi, hz0, hz1, hz2⟩ := info_parts infoC'
  simp [Instr.alloc, zeroValue, typeInfo, hi, hz0, newVar, newRow]

theorem run_alloc_w (w : World) : (Instr.alloc 105 true (.tuple #[])).run Tryz.prog w = .ok (.pointer (some ⟨w.heap.size, 0, none⟩)) (w.alloc (.cells zW 105)) := by
  rw [← zeroW_zW]
  obtain ⟨i0, hi, hz0, hz1, hz2⟩ := info_parts infoW
  simp [Instr.alloc, zeroValue, typeInfo, hi, hz0, newVar, newRow]

/-- The making of a sector's variable. -/
theorem alloc_c (hgd : op.guard = none) (ho : op.op = .alloc 103) (h : wpList Tryz.prog ops Q rest (a.put op.dst (.pointer (some ⟨w.heap.size, 0, none⟩))) (w.alloc (.cells zC 103))) : wpList Tryz.prog ops Q (op :: rest) a w :=
  wpList_plain hgd fun _ hK => by
    have hk := hK _ _ h
    unfold Oper.wp execOp
    simp only [ho, Sem.run_bind, run_alloc_c, Result.andThen_ok]
    exact hk

theorem alloc_w (hgd : op.guard = none) (ho : op.op = .alloc 105) (h : wpList Tryz.prog ops Q rest (a.put op.dst (.pointer (some ⟨w.heap.size, 0, none⟩))) (w.alloc (.cells zW 105))) : wpList Tryz.prog ops Q (op :: rest) a w :=
  wpList_plain hgd fun _ hK => by
    have hk := hK _ _ h
    unfold Oper.wp execOp
    simp only [ho, Sem.run_bind, run_alloc_w, Result.andThen_ok]
    exact hk

theorem load_c (hgd : op.guard = none) (x : Operand) (ho : op.op = .load 103 x) (g o : Nat) (hx : a.eval x = .pointer (some ⟨g, o, none⟩)) (L : Array Value) (hr : w.rangeAt g o L.toList) (hL : L.size = 64)
    (h : wpList Tryz.prog ops Q rest (a.put op.dst (.agg L)) w) : wpList Tryz.prog ops Q (op :: rest) a w :=
  wpList_load_mid hgd 103 x ho g o hx L.toList _ hr Tryz.underlying103 rfl (by rw [Array.length_toList, hL]; exact sizeC) h

theorem load_w (hgd : op.guard = none) (x : Operand) (ho : op.op = .load 105 x) (g o : Nat) (hx : a.eval x = .pointer (some ⟨g, o, none⟩)) (L : Array Value) (hr : w.rangeAt g o L.toList) (hL : L.size = 65)
    (h : wpList Tryz.prog ops Q rest (a.put op.dst (.agg L)) w) : wpList Tryz.prog ops Q (op :: rest) a w :=
  wpList_load_mid hgd 105 x ho g o hx L.toList _ hr Tryz.underlying105 rfl (by rw [Array.length_toList, hL]; exact sizeW) h

/-- A whole sector into the variable that was made last. -/
theorem store_c (hgd : op.guard = none) (x y : Operand) (ho : op.op = .store 103 x y) (u : World) (g : Nat) (hg : g = u.heap.size) (hw : w = u.alloc (.cells zC 103)) (C : Array Value)
    (hx : a.eval x = .pointer (some ⟨g, 0, none⟩)) (hy : a.eval y = .agg C) (hC : C.size = 64) (h1 : C.all (·.oneCell') = true)
    (h : wpList Tryz.prog ops Q rest (a.put op.dst undef) (u.alloc (.cells C 103))) : wpList Tryz.prog ops Q (op :: rest) a w := by
  subst hw; subst hg
  refine wpList_plain hgd fun _ hK => ?_
  unfold Oper.wp execOp
  simp only [ho, hx, hy, run_storeAt_new u 103 zC C (by rw [hC]; exact sizeC) (by rw [hC]; exact zC_size) h1, Sem.run_bind, Sem.run_pure, Result.andThen_ok]
  exact hK _ _ h

theorem store_w (hgd : op.guard = none) (x y : Operand) (ho : op.op = .store 105 x y) (u : World) (g : Nat) (hg : g = u.heap.size) (hw : w = u.alloc (.cells zW 105)) (C : Array Value)
    (hx : a.eval x = .pointer (some ⟨g, 0, none⟩)) (hy : a.eval y = .agg C) (hC : C.size = 65) (h1 : C.all (·.oneCell') = true)
    (h : wpList Tryz.prog ops Q rest (a.put op.dst undef) (u.alloc (.cells C 105))) : wpList Tryz.prog ops Q (op :: rest) a w := by
  subst hw; subst hg
  refine wpList_plain hgd fun _ hK => ?_
  unfold Oper.wp execOp
  simp only [ho, hx, hy, run_storeAt_new u 105 zW C (by rw [hC]; exact sizeW) (by rw [hC]; exact zW_size) h1, Sem.run_bind, Sem.run_pure, Result.andThen_ok]
  exact hK _ _ h
end

/-- A Write's cells. -/
@[irreducible] def wArr (k : Nat) (C : Array Value) : Array Value := #[.int .i64 k] ++ C

theorem wArr_size (k : Nat) (C : Array Value) (h : C.size = 64) : (wArr k C).size = 65 := by unfold wArr; simp [h]

theorem wArr_list (k : Nat) (l : List Int) : (wArr k (bytesV l).toArray).toList = wcell (k, l) := by unfold wArr wcell; simp

theorem fill_w (z : Array Value) (hz : z.size = 65) (k : Nat) (C : Array Value) (hC : C.size = 64) (places : Nat → Option (Nat × Nat)) (h0 : places 0 = some (0, 1)) (h1 : places 1 = some (1, 64)) :
    Instr.fill places z [(0, .int .i64 k), (1, .agg C)] = some (wArr k C) := by
  have e0 : (Value.int .i64 (k : Int)).cells = #[.int .i64 k] := rfl
  have e1 : (Value.agg C).cells = C := rfl
  obtain ⟨a1, a2⟩ := Great.foldl_set 0 [.int .i64 k] 0 z
  obtain ⟨b1, b2⟩ := Great.foldl_set 1 C.toList 0 (([.int .i64 (k : Int)].zipIdx 0).foldl (fun cs (x : Value × Nat) => cs.setIfInBounds (0 + x.2) x.1) z)
  unfold Instr.fill
  simp only [h0, e0]
  rw [if_neg (by simp [hz])]
  unfold Instr.fill
  simp only [h1, e1]
  have hs : (Array.foldl (fun cs (x : Value × Nat) => cs.setIfInBounds (0 + x.2) x.1) z (#[Value.int .i64 (k : Int)].zipIdx)) = ([.int .i64 (k : Int)].zipIdx 0).foldl (fun cs (x : Value × Nat) => cs.setIfInBounds (0 + x.2) x.1) z := by simp
  rw [hs]
  rw [if_neg (by rw [a1, hz, hC]; simp)]
  unfold Instr.fill
  have hs2 : ∀ cs0 : Array Value, (Array.foldl (fun cs (x : Value × Nat) => cs.setIfInBounds (1 + x.2) x.1) cs0 C.zipIdx) = (C.toList.zipIdx 0).foldl (fun cs (x : Value × Nat) => cs.setIfInBounds (1 + x.2) x.1) cs0 := by
    intro cs0
    rw [← Array.foldl_toList]; simp
  rw [hs2]
  congr 1
  apply Array.ext_getElem?
  intro j
  rw [b2 j, a1, a2 j, hz]
  unfold wArr
  rw [Array.getElem?_append]
  by_cases hj : j < 1
  · have : j = 0 := by omega
    subst this
    simp
  · by_cases hj2 : j < 65
    · rw [if_pos (by simp [hC]; omega)]
      simp [hj]
    · rw [if_neg (by simp [hC]; omega), if_neg (by simp; omega)]
      rw [Array.getElem?_eq_none (show z.size ≤ j by omega)]
      simp [hj, Array.getElem?_eq_none (show C.size ≤ j - 1 by omega)]

theorem run_build_w (w : World) (k : Nat) (C : Array Value) (hC : C.size = 64) : (Instr.build 105 #[(0, .int .i64 k), (1, .agg C)]).run Tryz.prog w = .ok (.agg (wArr k C)) w := by
  obtain ⟨i0, hi, hz0, hz1, hz2⟩ := info_parts infoW
  have hp : (Tryz.prog.underlying 105).bind (fun d => match d with | .struct fields => fields.toList.mapM (fun f => (Tryz.prog.info? f.type).map fun i => (f.offset, i.size)) | _ => none) = some [(0, 1), (1, 64)] := by kernel_rfl
  refine run_build w _ _ _ ?_
  unfold Program.built
  rw [Tryz.underlying105] at hp ⊢
  simp only [Option.bind_some] at hp
  simp only [hi, hz0, hp]
  exact fill_w _ zeroW_cells k C hC _ rfl rfl

theorem run_buildSlice_w (w : World) (W : Array Value) (hW : W.size = 65) : (Instr.buildSlice 98 1 #[(0, .agg W)]).run Tryz.prog w = .ok (.slice (some ⟨w.heap.size, 0, none⟩) 1 1) (w.alloc (.cells W 105)) := by
  obtain ⟨i0, hi, hz0, hz1, hz2⟩ := info_parts infoW
  refine run_buildSlice w _ _ 1 _ W i0 zeroW Tryz.underlying98 hi hz0 (by rw [hz1]; decide) (by rw [hz1]; decide) ?_
  rw [hz1]
  have := Great.fill_whole (s := 65) (by decide) [.agg W] ((Array.range (1 * 65)).map (zeroW.cells[· % zeroW.cells.size]!)) (by intro v hv; simp at hv; subst hv; exact hW) (by simp)
  simpa [Value.cells] using this

set_option maxHeartbeats 1000000 in
theorem read_no (w : World) (tag : Nat → Nat) (base o : Nat) (s : St) (p : PL) (h : PD w tag base o s p) (k : Int) (hk : hasB s.n k = false) :
    Calls Tryz.prog 63 #[.pointer (some ⟨p.D, 0, none⟩), .int .i64 k] w fun e w' => e = .returned (.tuple #[.slice none 0 0, .int .i64 1]) ∧ w' = w := by
  go_enter Tryz.func63, Tryz.ntmps63
  go_wp2_with (first
    | (go_at_call 41; refine (made_ok _ tag base o s p h).mono ?_; rintro e w' ⟨rfl, rfl⟩)
    | (go_at_call 94; refine (has_ok _ tag base o s p h k).mono ?_; rintro e w' ⟨rfl, rfl⟩))
  go_ret2
  exact ⟨rfl, rfl⟩

/-- A sector's bytes. -/
def sec (l : List Int) (k : Nat) : List Int := (l.drop (k * 64)).take 64

theorem sec_len {l : List Int} {n k : Nat} (h : l.length = n * 64) (hk : k < n) : (sec l k).length = 64 := by
  unfold sec; simp; omega

set_option maxHeartbeats 2000000 in
theorem read_ok (w : World) (tag : Nat → Nat) (base o : Nat) (s : St) (p : PL) (h : PD w tag base o s p) (k : Nat) (hk : k < s.n) :
    Calls Tryz.prog 63 #[.pointer (some ⟨p.D, 0, none⟩), .int .i64 k] w fun e w' => e = .returned (.tuple #[.slice (some ⟨w.heap.size, 0, none⟩) 64 64, .int .i64 0]) ∧ w' = w.alloc (.cells (bytesV (sec s.now k)).toArray 103) := by
  have hb : hasB s.n (k : Int) = true := by unfold hasB; simp; omega
  have h3 := h.d3
  have hr : w.rangeAt p.L (k * 64) (bytesV (sec s.now k)).toArray.toList := by
    have := h.rL.range (k * 64) 64
    simpa [sec, bytesV] using this
  have hC : (bytesV (sec s.now k)).toArray.size = 64 := by simp [sec_len h.ok.nl hk]
  have h1 : (bytesV (sec s.now k)).toArray.all (·.oneCell') = true := all_oneCell_toArray (ones_bytes _)
  have hn2 := h.ok.n2
  have hkI : (k : Int) < (s.n : Int) := by omega
  have HM := made_ok w tag base o s p h
  have HH := has_ok w tag base o s p h k
  clear h
  generalize (bytesV (sec s.now k)).toArray = C at *
  go_enter Tryz.func63, Tryz.ntmps63
  go_wp2_with (first
    | (go_at_call 41; refine HM.mono ?_; rintro e w' ⟨rfl, rfl⟩)
    | (go_at_call 94; refine HH.mono ?_; rintro e w' ⟨rfl, rfl⟩)
    | (refine load_c rfl (.tmp 19) rfl p.L (k * 64) rfl C hr hC ?_)
    | (refine alloc_c rfl rfl ?_)
    | (refine store_c rfl (.tmp 6) (.tmp 20) rfl _ _ rfl rfl C rfl rfl hC h1 ?_))
  go_ret2
  exact ⟨rfl, rfl⟩

end Go.Proofs.YtafkkehcacdodaaGreat

namespace Go.Proofs.YtafkkehcacdodaaGreat
open Go.RowKit

/-- append onto a window, as one step of a region that draws its order. -/
theorem step_win_append {P : Program} {ops : Array Oper} {o : Oper} {a : Act} {w : World} {K : Act → World → Prop} {Q : Exit → Act → World → Prop} {E : Prop} (hgd : o.guard = none) (s x : Operand) (t : TypeId)
    (ho : o.op = .call { callee := .builtin .append, args := #[s, x], argTypes := #[t, t] })
    (e : TypeId) (i : TypeInfo) (z : Value) (size bytes : Nat) (ht : P.underlying t = some (.slice e)) (hi : P.info? e = some i) (hz : i.zero = some z)
    (hsize : i.size = size) (hby : i.bytes = bytes) (hzs : z.cells.size = size) (hsz : 0 < size)
    (v : Value) (n : Nat) (xs : List Value) (hs : a.eval s = v) (hwin : Win w size v n xs)
    (ad : Addr) (m c : Nat) (news : List Value) (hx : a.eval x = .slice (some ad) m c) (hl : news.length = m * size) (hnews : ∀ j u, news[j]? = some u → w.cell? (ad.add j) = some u) (h1 : ∀ u ∈ news, u.oneCell' = true)
    (h63 : n + m ≤ maxLen) (hbytes : (n + m) * bytes ≤ 140737488355328)
    (h : ∀ v' w', Win w' size v' (n + m) (xs ++ news) → w.grownBy w' v.ownBlock → (v'.ownBlock = v.ownBlock ∨ v'.ownBlock = some w.heap.size) → K (a.put o.dst v') w') :
    if Region.wanted o (yielded ops a.tmps) = true then Oper.wp P o a w K Q else E := by
  have hw : Region.wanted o (yielded ops a.tmps) = true := by simp [Region.wanted, hgd]
  rw [if_pos hw]
  obtain ⟨v', w', hr, h2, h3, h4⟩ := win_append (P := P) w t o.type e i z size bytes ht hi hz hsize hby hzs hsz v n xs hwin (some ad) m c news hl (.inl ⟨ad, rfl, hnews⟩) h1 h63 hbytes
  unfold Oper.wp execOp
  simp only [ho, resolve, invoke, builtin, Sem.run_bind, Sem.run_pure, Result.andThen_ok, List.map_toArray, List.map_cons, List.map_nil, hs, hx, hr]
  exact h v' w' h2 h3 h4

theorem win_shape {w : World} {size n : Nat} {v : Value} {xs : List Value} (h : Win w size v n xs) : ∃ a c, v = .slice a n c := by
  rcases h.2 with ⟨h1, h2⟩ | ⟨g, oo, cap, cs, h1, _⟩
  · exact ⟨none, 0, by rw [h1, h2]⟩
  · exact ⟨_, _, h1⟩

theorem wpl_copy_run {P : Program} {w : World} {ops : Array Oper} {rest : List Oper} {o : Oper} {a : Act} {Q : Exit → Act → World → Prop} (hgd : o.guard = none) (s x : Operand) (t : TypeId)
    (ho : o.op = .call { callee := .builtin .copy, args := #[s, x], argTypes := #[t, t] }) (v u : Value) (hs : a.eval s = v) (hx : a.eval x = u) {v' : Value} {w' : World}
    (hr : (Builtin.copy_ #[t, t] o.type #[v, u]).run P w = .ok v' w') (h : wpList P ops Q rest (a.put o.dst v') w') : wpList P ops Q (o :: rest) a w :=
  wpList_plain hgd fun _ hK => by
    unfold Oper.wp execOp
    simp only [ho, resolve, invoke, builtin, Sem.run_bind, Sem.run_pure, Result.andThen_ok, List.map_toArray, List.map_cons, List.map_nil, hs, hx, hr]
    exact hK _ _ h

theorem zero_w (w : World) : (zeroValue 105).run Tryz.prog w = .ok (.agg zW) w := by
  obtain ⟨i0, hi, hz0, hz1, hz2⟩ := info_parts infoW
  have : zeroW = .agg zW := by unfold zeroW zW; rfl
  simp [zeroValue, typeInfo, hi, hz0, this]

theorem zW_ne : ¬ zW = #[] := by
  intro e
  have := zW_size
  rw [e] at this
  simp at this

theorem fold_w (k : Nat) (cs : List Value) (hcs : cs.length = 64) : List.foldl (fun (cs : Array Value) (x : Value × Nat) => cs.setIfInBounds (1 + x.snd) x.fst) (zW.setIfInBounds 0 (.int .i64 k)) cs.zipIdx = wArr k cs.toArray := by
  obtain ⟨b1, b2⟩ := Great.foldl_set 1 cs 0 (zW.setIfInBounds 0 (.int .i64 k))
  apply Array.ext_getElem?
  intro j
  rw [b2 j]
  unfold wArr
  rw [Array.getElem?_append, Array.size_setIfInBounds, zW_size]
  by_cases hj : j < 1
  · have : j = 0 := by omega
    subst this
    simp [zW_size]
  · by_cases hj2 : j < 65
    · rw [if_pos (by omega)]
      simp [hj]
    · rw [if_neg (by omega)]
      rw [Array.getElem?_eq_none (by rw [Array.size_setIfInBounds, zW_size]; omega)]
      simp [hj, List.getElem?_eq_none (show cs.length ≤ j - 1 by omega)]

theorem fold_whole (W A : Array Value) (hW : W.size = 65) (hA : A.size = 65) : Array.foldl (fun (cs : Array Value) (x : Value × Nat) => cs.setIfInBounds x.snd x.fst) A W.zipIdx 0 65 = W := by
  obtain ⟨b1, b2⟩ := Great.foldl_set 0 W.toList 0 A
  have e : Array.foldl (fun (cs : Array Value) (x : Value × Nat) => cs.setIfInBounds x.snd x.fst) A W.zipIdx 0 65 = (W.toList.zipIdx 0).foldl (fun (cs : Array Value) (x : Value × Nat) => cs.setIfInBounds (0 + x.snd) x.fst) A := by
    have h65 : W.zipIdx.size = 65 := by simp [hW]
    conv => lhs; rw [← h65]
    rw [← Array.foldl_toList]
    simp
  rw [e]
  apply Array.ext_getElem?
  intro j
  rw [b2 j]
  by_cases hj : j < 65
  · rw [if_pos (by simp [hW, hA]; omega)]
    simp
  · rw [if_neg (by simp [hW, hA]; omega), Array.getElem?_eq_none (by omega), Array.getElem?_eq_none (by omega)]

set_option maxHeartbeats 1000000 in
theorem write_no (w : World) (tag : Nat → Nat) (base o : Nat) (s : St) (p : PL) (h : PD w tag base o s p) (k : Int) (v : Value) (l : List Int) (hv : Bts w v l) (hk : hasB s.n k = false ∨ l.length ≠ 64) :
    Calls Tryz.prog 110 #[.pointer (some ⟨p.D, 0, none⟩), .int .i64 k, v] w fun e w' => e = .returned (.int .i64 1) ∧ w' = w := by
  obtain ⟨a, c, rfl, hl, hm, _⟩ := bts_src hv
  unfold maxLen at hm
  by_cases hb : hasB s.n k = true
  · have hne : ((l.length : Int) != 64) = true := by
      rcases hk with hk | hk
      · rw [hb] at hk; cases hk
      · rw [bne_iff_ne]; omega
    clear hk
    go_enter Tryz.func110, Tryz.ntmps110
    go_wp2_with (first
      | (go_at_call 41; refine (made_ok _ tag base o s p h).mono ?_; rintro e w' ⟨rfl, rfl⟩)
      | (go_at_call 94; refine (has_ok _ tag base o s p h k).mono ?_; rintro e w' ⟨rfl, rfl⟩))
    go_ret
    exact ⟨rfl, rfl⟩
  · have hb' : hasB s.n k = false := by simpa using hb
    clear hk hb
    go_enter Tryz.func110, Tryz.ntmps110
    go_wp2_with (first
      | (go_at_call 41; refine (made_ok _ tag base o s p h).mono ?_; rintro e w' ⟨rfl, rfl⟩)
      | (go_at_call 94; refine (has_ok _ tag base o s p h k).mono ?_; rintro e w' ⟨rfl, rfl⟩))
    go_ret
    exact ⟨rfl, rfl⟩

/-- Behind a Write that is done. -/
theorem PD.written {w w2 w3 : World} {tag : Nat → Nat} {base o : Nat} {s : St} {p : PL} (h : PD w tag base o s p) (hbase : base ≤ w.heap.size) (k : Nat) (hk : k < s.n) (l : List Int) (hl : l.length = 64) (hlb : isBytes l) (v' : Value)
    (h2 : Below (w.setCells p.L (k * 64) (bytesV l)).heap.size (w.setCells p.L (k * 64) (bytesV l)) w2) (hgrow : w2.grownBy w3 p.uv.ownBlock) (hat : v'.ownBlock = p.uv.ownBlock ∨ v'.ownBlock = some w2.heap.size)
    (hwin : Win w3 65 v' (s.since.length + 1) (wcells s.since ++ wcell (k, l))) :
    ∃ p' tag', p'.D = p.D ∧ PD (w3.setCell ⟨p.D, 4, none⟩ v') tag' base o (s.wrote k l) p' ∧ Step tag tag' base o w (w3.setCell ⟨p.D, 4, none⟩ v') := by
  have hsz1 : (w.setCells p.L (k * 64) (bytesV l)).heap.size = w.heap.size := size_setCells _ _ _ _
  have hsz2 : w.heap.size ≤ w2.heap.size := by have := h2.size; omega
  have s1 : Step tag tag base o w (w.setCells p.L (k * 64) (bytesV l)) := (Step.refl tag base o w).sets h.tL.2 (by have := h.tL.1; omega) _ _
  have s2 : Step tag tag base o w w2 := s1.trans (step_below tag base o (by omega) h2)
  obtain ⟨s3, htv⟩ := step_grown (tag := tag) (base := base) hgrow hat h.tU (show (16 * o + 6) / 16 = o by omega) (by omega)
  have s4 : Step tag (retag tag v' (16 * o + 6)) base o w w3 := s2.trans s3
  have hT : ∀ {g : Nat}, g < w.heap.size → retag tag v' (16 * o + 6) g = tag g := fun {g} hg => s4.tags g hg
  refine ⟨{ p with uv := v' }, retag tag v' (16 * o + 6), rfl, ?_, s4.set h.tD.2 (by rw [hT h.bD.lt]; have := h.tD.1; omega) 4 _⟩
  have e2 : ∀ g, g < w.heap.size → tag g ≠ 16 * o + 6 → w3.heap[g]? = w2.heap[g]? := fun g hg hne => hgrow.block g (by omega) (fun e => hne (h.tU g e.symm).1)
  have e1 : ∀ g, g < w.heap.size → w2.heap[g]? = (w.setCells p.L (k * 64) (bytesV l)).heap[g]? := fun g hg => h2.block g (by omega)
  have e0 : ∀ g, g < w.heap.size → tag g ≠ 16 * o + 4 → (w.setCells p.L (k * 64) (bytesV l)).heap[g]? = w.heap[g]? := fun g hg hne => heap_setCells_other g p.L (fun e => hne (by rw [e]; exact h.tL.1)) _ _ _
  have e3 : ∀ g, g < w3.heap.size → retag tag v' (16 * o + 6) g ≠ 16 * o + 1 → (w3.setCell ⟨p.D, 4, none⟩ v').heap[g]? = w3.heap[g]? := fun g hg hne => heap_setCell_other _ _ g _ (fun e => hne (by
    have : g = p.D := e
    rw [this, hT h.bD.lt]; exact h.tD.1))
  have hsz3 : w.heap.size ≤ w3.heap.size := s4.below.size
  have all : ∀ {g T : Nat}, g < w.heap.size → tag g = T → T ≠ 16 * o + 1 → T ≠ 16 * o + 4 → T ≠ 16 * o + 6 → (w3.setCell ⟨p.D, 4, none⟩ v').heap[g]? = w.heap[g]? := fun {g T} hg ht n1 n4 n6 => by
    rw [e3 g (by omega) (by rw [hT hg, ht]; exact n1), e2 g hg (by rw [ht]; exact n6), e1 g hg, e0 g hg (by rw [ht]; exact n4)]
  have hbl : (bytesV l).length = 64 := by simp [hl]
  have hrow := h.rL.sets (k * 64) (bytesV l) (by rw [hbl]; omega)
  refine ⟨?_, h.bQ.same (all h.bQ.lt h.tQ.1 (by omega) (by omega) (by omega)), h.rC.same (all h.rC.lt h.tC.1 (by omega) (by omega) (by omega)), ?_, h.wW.same (fun g hg => all (h.wW.lt g hg) (h.tW g hg).1 (by omega) (by omega) (by omega)), ?_, ?_, ?_, ?_, ?_, ?_, htv, h.ok.wrote hk hl hlb⟩
  · have b3 : Blk w3 p.D _ := h.bD.same (by rw [e2 _ h.bD.lt (by rw [h.tD.1]; omega), e1 _ h.bD.lt, e0 _ h.bD.lt (by rw [h.tD.1]; omega)])
    have := b3.set 4 v'
    simpa [St.wrote] using this
  · have e : bytesV (s.wrote k l).now = splice (bytesV s.now) (k * 64) (bytesV l) := splice_map _ _ _ _
    show Row _ 64 p.L p.cL s.n _
    rw [e]
    refine hrow.same ?_
    rw [e3 p.L (by have := h.rL.lt; omega) (by rw [hT h.rL.lt, h.tL.1]; omega), e2 _ h.rL.lt (by rw [h.tL.1]; omega), e1 _ h.rL.lt]
  · have e : wcells (s.wrote k l).since = wcells s.since ++ wcell (k, l) := wcells_snoc _ _
    have e' : (s.wrote k l).since.length = s.since.length + 1 := by simp [St.wrote]
    rw [e, e']
    refine hwin.same (fun g hg => e3 g (hwin.lt g hg) ?_)
    rw [(htv g hg).1]; omega
  · exact ⟨by rw [hT h.bD.lt]; exact h.tD.1, h.tD.2⟩
  · exact ⟨by rw [hT h.bQ.lt]; exact h.tQ.1, h.tQ.2⟩
  · exact ⟨by rw [hT h.rC.lt]; exact h.tC.1, h.tC.2⟩
  · exact ⟨by rw [hT h.rL.lt]; exact h.tL.1, h.tL.2⟩
  · intro g hg
    exact ⟨by rw [hT (h.wW.lt g hg)]; exact (h.tW g hg).1, (h.tW g hg).2⟩

theorem size_drewN (w : World) (n : Nat) : (w.drewN n).heap.size = w.heap.size := rfl

theorem bts_other {w w' : World} {tag tag' : Nat → Nat} {base o : Nat} {v : Value} {l : List Int} (h : Bts w v l) (hs : Step tag tag' base o w w') (hv : ∀ g, v.ownBlock = some g → tag g / 16 ≠ o) : Bts w' v l := by
  obtain ⟨a, cap, b, off, rfl, hl, hm, hb, ha, hse⟩ := h
  refine ⟨a, cap, b, off, rfl, hl, hm, hb, ha, fun i hi => ?_⟩
  rcases ha with rfl | hnil
  · have hc := hse i hi
    have hlt : b < w.heap.size := World.block_lt_of_cell? w _ hc
    rw [World.cell?_of_block (w := w) (a := ⟨b, off + i, none⟩) (hs.kept b hlt (hv b rfl))]
    exact hc
  · rw [hnil] at hi; simp at hi

theorem splice_mid {α : Type} (cs vs : List α) (o : Nat) (h : o + vs.length ≤ cs.length) : ((splice cs o vs).drop o).take vs.length = vs := by
  apply List.ext_getElem?
  intro j
  rw [List.getElem?_take, List.getElem?_drop, splice_get _ _ _ _ h]
  by_cases hj : j < vs.length
  · rw [if_pos hj, if_pos (by omega)]; congr 1; omega
  · rw [if_neg hj, List.getElem?_eq_none (by omega)]

theorem write_facts {w : World} {tag : Nat → Nat} {base o : Nat} {s : St} {p : PL} (h : PD w tag base o s p) (k : Nat) (hk : k < s.n) (a : Option Addr) (c : Nat) (l : List Int) (hv : Bts w (.slice a 64 c) l) (hl : l.length = 64) (D : Nat) (hD : p.D = D) :
    ∃ (w2 : World) (cs : List Value), (Builtin.copy_ #[39, 39] 3 #[.slice (some ⟨p.L, k * 64, none⟩) 64 64, .slice a 64 c]).run Tryz.prog w = .ok (.int .i64 64) w2 ∧ Hid (w2 = w.setCells p.L (k * 64) (bytesV l)) ∧
      w2.cell? ⟨D, 3, none⟩ = some (.slice (some ⟨p.L, 0, none⟩) s.n p.cL) ∧ w2.cell? ⟨D, 4, none⟩ = some p.uv ∧ w2.frozen? ⟨D, 4, none⟩ = false ∧ w2.rangeAt p.L (k * 64) cs ∧ cs.length = 64 ∧ (∀ v ∈ cs, v.oneCell' = true) ∧ Hid (cs = bytesV l) ∧ D < w2.heap.size := by
  subst hD
  have hbl : (bytesV l).length = 64 := by simp [hl]
  have hle : k * 64 + (bytesV l).length ≤ s.n * 64 := by rw [hbl]; omega
  have hrow := h.rL.sets (k * 64) (bytesV l) hle
  have hbD : Blk (w.setCells p.L (k * 64) (bytesV l)) p.D _ := h.bD.same (heap_setCells_other p.D p.L (fun e => by have a := h.tD.1; have b := h.tL.1; rw [e] at a; omega) _ _ _)
  refine ⟨w.setCells p.L (k * 64) (bytesV l), bytesV l, ?_, rfl, hbD.cell 3, hbD.cell 4, hbD.frozen 4, ?_, hbl, ones_bytes l, rfl, hbD.lt⟩
  · obtain ⟨a', c', hva, _, _, hsrc⟩ := bts_src hv
    rw [hl] at hva
    simp only [Value.slice.injEq, true_and] at hva
    obtain ⟨rfl, rfl⟩ := hva
    rcases hsrc with ⟨ad, rfl, hcells⟩ | h0
    · have hth := h.rL.there (k * 64) (bytesV l).length (by rw [hbl]; omega)
      have := run_copy_cells (P := Tryz.prog) w 39 39 3 5 p.L (k * 64) 64 64 ad 64 c (bytesV l) Tryz.underlying39 size5 (by rw [hbl]; rfl) hcells (fun j hj => (hth j hj).1) (fun j hj => (hth j hj).2) (ones_bytes l)
      rw [this, hbl]; rfl
    · omega
  · have := hrow.range (k * 64) 64
    have e := splice_mid (bytesV s.now) (bytesV l) (k * 64) (by rw [hbl]; simp [h.ok.nl]; omega)
    rw [hbl] at e
    rwa [e] at this

theorem news_new (w : World) (W : Array Value) (t : TypeId) : ∀ j u, W.toList[j]? = some u → (w.alloc (.cells W t)).cell? ((⟨w.heap.size, 0, none⟩ : Addr).add j) = some u := by
  intro j u hu
  rw [add_at, Nat.zero_add, (blk_new w W t).cell]
  exact hu

theorem wcell_one (x : Nat × List Int) : ∀ v ∈ wcell x, v.oneCell' = true := by
  intro v hv
  simp only [wcell, List.mem_cons] at hv
  rcases hv with rfl | hv
  · rfl
  · exact ones_bytes _ v hv

set_option maxHeartbeats 4000000 in
theorem write_done (w : World) (tag : Nat → Nat) (base o : Nat) (s : St) (p : PL) (h : PD w tag base o s p) (hbase : base ≤ w.heap.size) (k : Nat) (hk : k < s.n) (v : Value) (l : List Int) (hv : Bts w v l) (hl : l.length = 64)
    (hvo : ∀ g, v.ownBlock = some g → tag g / 16 ≠ o) (hops : s.ops ≤ 1000000) (hout : s.outs.length ≤ 1000000) (hsin : s.since.length ≤ 1000000) (hd : doneB s.out = true) :
    Calls Tryz.prog 110 #[.pointer (some ⟨p.D, 0, none⟩), .int .i64 k, v] w fun e w' => e = .returned (.int .i64 (errC s.out)) ∧ ∃ p' tag', p'.D = p.D ∧ PD w' tag' base o (s.take.wrote k l) p' ∧ Step tag tag' base o w w' := by
  obtain ⟨i0, hi0, hz0, hz1, hz2⟩ := info_parts infoW
  have hb : hasB s.n (k : Int) = true := by unfold hasB; simp; omega
  have hlb : isBytes l := by obtain ⟨_, _, _, _, _, _, _, hb, _⟩ := hv; exact hb
  have HA := attempt_ok w tag base o s p h hops hout
  have HM := made_ok w tag base o s p h
  have HH := has_ok w tag base o s p h k
  have hn2 := h.ok.n2
  have hkI : (k : Int) < (s.n : Int) := by omega
  have hlI : (l.length : Int) = 64 := by omega
  obtain ⟨a, c, hvs, hlc, hmc, _⟩ := bts_src hv
  have HO : Hid (∀ g, v.ownBlock = some g → tag g / 16 ≠ o) := hvo
  have HLB : Hid (isBytes l) := hlb
  have HLL : Hid (l.length = 64) := hl
  rw [hl] at hvs hlc
  unfold maxLen at hmc
  subst hvs
  have HV : Hid (∀ w', Step tag tag base o w w' → Bts w' (.slice a 64 c) l) := fun w' hs => bts_other hv hs hvo
  have HB : Hid (base ≤ w.heap.size) := hbase
  clear h hv hvo hlb hlI hl HO hbase
  go_enter Tryz.func110, Tryz.ntmps110
  go_wp2_with (first
    | (go_at_call 41; refine HM.mono ?_; rintro e w' ⟨rfl, hx⟩; have HX1 : Hid (w' = w) := hx; clear hx; rw [HX1.out])
    | (go_at_call 94; refine HH.mono ?_; rintro e w' ⟨rfl, hx⟩; have HX2 : Hid (w' = w) := hx; clear hx; rw [HX2.out])
    | (go_at_call 128; refine HA.mono ?_; rintro e w1 ⟨rfl, p1, hD, hP, hS⟩; have h3 := hP.d3; rw [hD] at h3; have hn1 : s.take.n = s.n := rfl; rw [hn1] at h3; obtain ⟨w2, cs, hcp, HW2, c3, c4, f4, hr, hcs, h1, HCS, hlt⟩ := write_facts hP k hk a c l (HV.out w1 hS) HLL.out p.D hD; rw [hn1] at c3; have HP : Hid (PD w1 tag base o s.take p1) := hP; have HS : Hid (Step tag tag base o w w1) := hS; have HD : Hid (p1.D = p.D) := hD; clear hP hS hD HM HH HA hn1))
  have hu := Tryz.underlying103
  have hi : (Tryz.prog.info? 103).map (·.size) = some cs.length := by rw [hcs]; exact sizeC
  have hW : (wArr k cs.toArray).size = 65 := wArr_size k _ (by simpa using hcs)
  have HWU : Hid (Win w2 65 p1.uv s.since.length (wcells s.since)) := by
    refine HP.out.wU.same (fun g hg => ?_)
    rw [HW2.out]
    exact heap_setCells_other g p1.L (fun e => by have a := (HP.out.tU g hg).1; have b := HP.out.tL.1; rw [e] at a; omega) _ _ _
  have HWL : Hid ((wArr k cs.toArray).toList = wcell (k, l)) := by
    show _ = _
    rw [HCS.out]; exact wArr_list k l
  obtain ⟨ua, uc, hU⟩ := win_shape HWU.out
  have HU : Hid (p1.uv = .slice ua s.since.length uc) := hU
  rw [hU] at c4
  clear hU h3 hcp
  have hkeep : ∀ X, Below w2.heap.size w2 X → (X.cell? ⟨p.D, 3, none⟩ = some (.slice (some ⟨p1.L, 0, none⟩) s.n p1.cL) ∧ X.cell? ⟨p.D, 4, none⟩ = some (.slice ua s.since.length uc) ∧ X.rangeAt p1.L (k * 64) cs) := fun X hX =>
    ⟨cell_later hX c3, cell_later hX c4, fun j v hv => cell_later hX (hr j v hv)⟩
  have KEEP : Hid (∀ X, Below w2.heap.size w2 X → (X.cell? ⟨p.D, 3, none⟩ = some (.slice (some ⟨p1.L, 0, none⟩) s.n p1.cL) ∧ X.cell? ⟨p.D, 4, none⟩ = some (.slice ua s.since.length uc) ∧ X.rangeAt p1.L (k * 64) cs)) := hkeep
  clear hkeep
  have K3 : Hid (∀ X w3, Below w2.heap.size w2 X → X.grownBy w3 (Value.slice ua s.since.length uc).ownBlock → (w3.cell? ⟨p.D, 3, none⟩ = some (.slice (some ⟨p1.L, 0, none⟩) s.n p1.cL) ∧ w3.cell? ⟨p.D, 4, none⟩ = some (.slice ua s.since.length uc) ∧ w3.rangeAt p1.L (k * 64) cs) ∧ w3.frozen? ⟨p.D, 4, none⟩ = false) := by
    intro X w3 hX hg
    have hsz := hX.size
    have eD : w3.heap[p.D]? = X.heap[p.D]? := hg.block p.D (by omega) (fun e => by
      have a := HP.out.tD.1; have b := (HP.out.tU p.D (by rw [HU.out]; exact e.symm)).1; rw [HD.out] at a; omega)
    have hLlt : p1.L < w2.heap.size := by have := HP.out.rL.lt; rw [HW2.out, size_setCells]; exact this
    have eL : w3.heap[p1.L]? = X.heap[p1.L]? := hg.block p1.L (by omega) (fun e => by
      have a := HP.out.tL.1; have b := (HP.out.tU p1.L (by rw [HU.out]; exact e.symm)).1; omega)
    obtain ⟨k3, k4, kr⟩ := KEEP.out X hX
    refine ⟨⟨?_, ?_, ?_⟩, ?_⟩
    · rw [World.cell?_of_block (w := X) (a := ⟨p.D, 3, none⟩) eD]; exact k3
    · rw [World.cell?_of_block (w := X) (a := ⟨p.D, 4, none⟩) eD]; exact k4
    · intro j v hv
      rw [World.cell?_of_block (w := X) (a := ⟨p1.L, _, none⟩) eL]; exact kr j v hv
    · rw [World.frozen?_of_block (w := X) (a := ⟨p.D, 4, none⟩) eD, hX.frozen (p := ⟨p.D, 4, none⟩) hlt]; exact f4
  have z1 := zero_w
  have z2 := zW_ne
  have z3 := zW_size
  have z4 := fold_w k cs hcs
  have z5 : ∀ A : Array Value, A.size = 65 → Array.foldl (fun (cs : Array Value) (x : Value × Nat) => cs.setIfInBounds x.snd x.fst) A (wArr k cs.toArray).zipIdx 0 65 = wArr k cs.toArray := fun A hA => fold_whole _ A hW hA
  have K4 : Hid (∀ w3 : World, (w3.cell? ⟨p.D, 3, none⟩ = some (.slice (some ⟨p1.L, 0, none⟩) s.n p1.cL) ∧ w3.rangeAt p1.L (k * 64) cs) → ∀ v, ((w3.setCell ⟨p.D, 4, none⟩ v).cell? ⟨p.D, 3, none⟩ = some (.slice (some ⟨p1.L, 0, none⟩) s.n p1.cL) ∧ (w3.setCell ⟨p.D, 4, none⟩ v).rangeAt p1.L (k * 64) cs)) := by
    intro w3 h3 v
    have hne : p.D ≠ p1.L := fun e => by have a := HP.out.tD.1; have b := HP.out.tL.1; rw [HD.out, e] at a; omega
    refine ⟨?_, fun j u hu => ?_⟩
    · rw [World.cell?_setCell_other _ _ _ _ (by intro e; have := congrArg Addr.off e; simp at this)]; exact h3.1
    · rw [World.cell?_setCell_other _ _ _ _ (by intro e; exact hne (congrArg Addr.block e))]; exact h3.2 j u hu
  have hdD : p.D < w2.drew.heap.size := hlt
  have d3 : w2.drew.cell? ⟨p.D, 3, none⟩ = some (.slice (some ⟨p1.L, 0, none⟩) s.n p1.cL) := c3
  have d4 : w2.drew.cell? ⟨p.D, 4, none⟩ = some (.slice ua s.since.length uc) := c4
  have hld : (loadCellsFrom ⟨p1.L, k * 64, none⟩ 0 64 #[]).run Tryz.prog w2.drew = .ok cs.toArray w2.drew := by
    have := run_loadCells_list (P := Tryz.prog) w2.drew ⟨p1.L, k * 64, none⟩ cs (fun j v hv => by rw [add_at]; exact hr j v hv)
    rw [hcs] at this
    simpa [loadCells] using this
  refine wp_region_noPanic ?_
  refine wp_region_held_drew (S := fun w' => w'.cell? ⟨p.D, 3, none⟩ = some (.slice (some ⟨p1.L, 0, none⟩) s.n p1.cL) ∧ w'.rangeAt p1.L (k * 64) cs) (by kernel_rfl) ⟨d3, hr⟩ (fun hHeld => ?_)
  refine wpAnyH_take (i := 0) (oi := { dst := some 36, op := Op.move (Operand.tmp 0), type := 25, pos := "sector.go:104", after := #[], guard := none }) (v := .pointer (some ⟨p.D, 0, none⟩)) rfl (by kernel_rfl) (by kernel_rfl) (by kernel_rfl) (fun _ _ _ h => h) (Or.inl ⟨by rfl, by intro wS hSw; go_simp⟩) hHeld ?_
  simp only [Act.put, List.setIfInBounds_toArray, List.set_cons_zero, List.set_cons_succ]
  refine wpAnyH_take (i := 1) (oi := { dst := some 37, op := Op.move (Operand.tmp 0), type := 25, pos := "sector.go:104", after := #[], guard := none }) (v := .pointer (some ⟨p.D, 0, none⟩)) rfl (by kernel_rfl) (by kernel_rfl) (by kernel_rfl) (fun _ _ _ h => h) (Or.inl ⟨by rfl, by intro wS hSw; go_simp⟩) hHeld ?_
  simp only [Act.put, List.setIfInBounds_toArray, List.set_cons_zero, List.set_cons_succ]
  refine wpAnyH_take (i := 2) (oi := { dst := some 38, op := Op.nilCheck (Operand.tmp 37), type := 0, pos := "sector.go:104", after := #[{ on := 1, ground := Ground.data }], guard := none }) (v := .pointer (some ⟨p.D, 0, none⟩)) rfl (by kernel_rfl) (by kernel_rfl) (by kernel_rfl) (fun _ _ _ h => h) (Or.inl ⟨by rfl, by intro wS hSw; go_simp⟩) hHeld ?_
  simp only [Act.put, List.setIfInBounds_toArray, List.set_cons_zero, List.set_cons_succ]
  refine wpAnyH_take (i := 3) (oi := { dst := some 39, op := Op.fieldAddr 100 (Operand.tmp 38) 4, type := 0, pos := "sector.go:104", after := #[{ on := 2, ground := Ground.data }], guard := none }) (v := .pointer (some ⟨p.D, 4, none⟩)) rfl (by kernel_rfl) (by kernel_rfl) (by kernel_rfl) (fun _ _ _ h => h) (Or.inl ⟨by rfl, by intro wS hSw; go_simp⟩) hHeld ?_
  simp only [Act.put, List.setIfInBounds_toArray, List.set_cons_zero, List.set_cons_succ]
  refine wpAnyH_take (i := 5) (oi := { dst := some 41, op := Op.move (Operand.tmp 1), type := 3, pos := "sector.go:104", after := #[], guard := none }) (v := .int .i64 k) rfl (by kernel_rfl) (by kernel_rfl) (by kernel_rfl) (fun _ _ _ h => h) (Or.inl ⟨by rfl, by intro wS hSw; go_simp⟩) hHeld ?_
  simp only [Act.put, List.setIfInBounds_toArray, List.set_cons_zero, List.set_cons_succ]
  refine wpAnyH_take (i := 6) (oi := { dst := some 42, op := Op.move (Operand.tmp 0), type := 25, pos := "sector.go:104", after := #[], guard := none }) (v := .pointer (some ⟨p.D, 0, none⟩)) rfl (by kernel_rfl) (by kernel_rfl) (by kernel_rfl) (fun _ _ _ h => h) (Or.inl ⟨by rfl, by intro wS hSw; go_simp⟩) hHeld ?_
  simp only [Act.put, List.setIfInBounds_toArray, List.set_cons_zero, List.set_cons_succ]
  refine wpAnyH_take (i := 7) (oi := { dst := some 43, op := Op.nilCheck (Operand.tmp 42), type := 0, pos := "sector.go:104", after := #[{ on := 6, ground := Ground.data }], guard := none }) (v := .pointer (some ⟨p.D, 0, none⟩)) rfl (by kernel_rfl) (by kernel_rfl) (by kernel_rfl) (fun _ _ _ h => h) (Or.inl ⟨by rfl, by intro wS hSw; go_simp⟩) hHeld ?_
  simp only [Act.put, List.setIfInBounds_toArray, List.set_cons_zero, List.set_cons_succ]
  refine wpAnyH_take (i := 8) (oi := { dst := some 44, op := Op.fieldAddr 100 (Operand.tmp 43) 3, type := 0, pos := "sector.go:104", after := #[{ on := 7, ground := Ground.data }], guard := none }) (v := .pointer (some ⟨p.D, 3, none⟩)) rfl (by kernel_rfl) (by kernel_rfl) (by kernel_rfl) (fun _ _ _ h => h) (Or.inl ⟨by rfl, by intro wS hSw; go_simp⟩) hHeld ?_
  simp only [Act.put, List.setIfInBounds_toArray, List.set_cons_zero, List.set_cons_succ]
  refine wpAnyH_take (i := 9) (oi := { dst := some 45, op := Op.load 68 (Operand.tmp 44), type := 68, pos := "sector.go:104", after := #[{ on := 8, ground := Ground.data }], guard := none }) (v := .slice (some ⟨p1.L, 0, none⟩) s.n p1.cL) rfl (by kernel_rfl) (by kernel_rfl) (by kernel_rfl) (fun _ _ _ h => h) (Or.inl ⟨by rfl, by intro wS hSw; obtain ⟨q3, qr⟩ := hSw; go_simp⟩) hHeld ?_
  simp only [Act.put, List.setIfInBounds_toArray, List.set_cons_zero, List.set_cons_succ]
  refine wpAnyH_take (i := 10) (oi := { dst := some 46, op := Op.move (Operand.tmp 1), type := 3, pos := "sector.go:104", after := #[], guard := none }) (v := .int .i64 k) rfl (by kernel_rfl) (by kernel_rfl) (by kernel_rfl) (fun _ _ _ h => h) (Or.inl ⟨by rfl, by intro wS hSw; go_simp⟩) hHeld ?_
  simp only [Act.put, List.setIfInBounds_toArray, List.set_cons_zero, List.set_cons_succ]
  refine wpAnyH_take (i := 11) (oi := { dst := some 47, op := Op.indexAddr 68 (Operand.tmp 45) (Operand.tmp 46), type := 0, pos := "sector.go:104", after := #[{ on := 9, ground := Ground.data }, { on := 10, ground := Ground.data }], guard := none }) (v := .pointer (some ⟨p1.L, k * 64, none⟩)) rfl (by kernel_rfl) (by kernel_rfl) (by kernel_rfl) (fun _ _ _ h => h) (Or.inl ⟨by rfl, by intro wS hSw; go_simp⟩) hHeld ?_
  simp only [Act.put, List.setIfInBounds_toArray, List.set_cons_zero, List.set_cons_succ]
  refine wpAnyH_take (i := 12) (oi := { dst := some 48, op := Op.load 103 (Operand.tmp 47), type := 103, pos := "sector.go:104", after := #[{ on := 11, ground := Ground.data }], guard := none }) rfl (by kernel_rfl) (by kernel_rfl) (by kernel_rfl) (fun _ _ _ h => h) (yieldsIf_load_mid (by rfl) _ _ rfl p1.L (k * 64) rfl cs _ (fun _ hSw => hSw.2) hu rfl hi) hHeld ?_
  simp only [Act.put, List.setIfInBounds_toArray, List.set_cons_zero, List.set_cons_succ]
  refine wpAnyH_take (i := 13) (oi := { dst := some 49, op := Op.build 105 #[(0, Operand.tmp 41), (1, Operand.tmp 48)], type := 105, pos := "sector.go:104", after := #[{ on := 5, ground := Ground.data }, { on := 12, ground := Ground.data }], guard := none }) (v := .agg (wArr k cs.toArray)) rfl (by kernel_rfl) (by kernel_rfl) (by kernel_rfl) (fun _ _ _ h => h) (Or.inl ⟨by rfl, by intro wS hSw; go_simp⟩) hHeld ?_
  simp only [Act.put, List.setIfInBounds_toArray, List.set_cons_zero, List.set_cons_succ]
  refine wpAnyH_ready (rs := [4, 14]) (by kernel_rfl) (by simp) (AllReadyH.cons (o := { dst := some 40, op := Op.load 98 (Operand.tmp 39), type := 98, pos := "sector.go:104", after := #[{ on := 3, ground := Ground.data }], guard := none }) rfl (fun K hK => ?wayA) (AllReadyH.cons (o := { dst := some 50, op := Op.buildSlice 98 1 #[(0, Operand.tmp 49)], type := 98, pos := "sector.go:104", after := #[{ on := 13, ground := Ground.data }], guard := none }) rfl (fun K hK => ?wayB) AllReadyH.nil))
  case' wayA =>
    go_simp
    refine hK.out _ _ ⟨d3, hr⟩ (fun hHeld => ?_)
    clear hK K
    try simp only [Act.put, List.setIfInBounds_toArray, List.set_cons_zero, List.set_cons_succ]
    refine wpAnyH_ready (rs := [14]) (by kernel_rfl) (by simp) (AllReadyH.cons (o := { dst := some 50, op := Op.buildSlice 98 1 #[(0, Operand.tmp 49)], type := 98, pos := "sector.go:104", after := #[{ on := 13, ground := Ground.data }], guard := none }) rfl (fun K hK => ?_) AllReadyH.nil)
    go_simp
    refine hK.out _ _ ⟨(KEEP.out _ (below_alloc w2 _).drew).1, (KEEP.out _ (below_alloc w2 _).drew).2.2⟩ (fun hHeld => ?_)
    clear hK K
    try simp only [Act.put, List.setIfInBounds_toArray, List.set_cons_zero, List.set_cons_succ]
  case' wayB =>
    go_simp
    refine hK.out _ _ ⟨(KEEP.out _ (below_alloc w2 _).drew).1, (KEEP.out _ (below_alloc w2 _).drew).2.2⟩ (fun hHeld => ?_)
    clear hK K
    try simp only [Act.put, List.setIfInBounds_toArray, List.set_cons_zero, List.set_cons_succ]
    refine wpAnyH_ready (rs := [4]) (by kernel_rfl) (by simp) (AllReadyH.cons (o := { dst := some 40, op := Op.load 98 (Operand.tmp 39), type := 98, pos := "sector.go:104", after := #[{ on := 3, ground := Ground.data }], guard := none }) rfl (fun K hK => ?_) AllReadyH.nil)
    have d4' := (KEEP.out _ (below_alloc w2 (.cells (wArr k cs.toArray) 105)).drew).2.1
    go_simp
    refine hK.out _ _ ⟨(KEEP.out _ (below_alloc w2 _).drew).1, (KEEP.out _ (below_alloc w2 _).drew).2.2⟩ (fun hHeld => ?_)
    clear hK K
    try simp only [Act.put, List.setIfInBounds_toArray, List.set_cons_zero, List.set_cons_succ]
  all_goals
    refine wpAnyH_ready (rs := [15]) (by kernel_rfl) (by simp) (AllReadyH.cons (o := { dst := some 51, op := Op.call { callee := Callee.builtin Builtin.append, args := #[Operand.tmp 40, Operand.tmp 50], argTypes := #[98, 98] }, type := 98, pos := "sector.go:104", after := #[{ on := 4, ground := Ground.data }, { on := 14, ground := Ground.data }], guard := none }) rfl (fun K hK => ?_) AllReadyH.nil)
    refine step_win_append rfl (.tmp 40) (.tmp 50) 98 rfl 105 i0 zeroW 65 72 Tryz.underlying98 hi0 hz0 hz1 hz2 zeroW_cells (by decide) (.slice ua s.since.length uc) s.since.length (wcells s.since) (by rfl) (by have := HWU.out; rw [HU.out] at this; exact this.later (below_alloc w2 _).drew) ⟨w2.heap.size, 0, none⟩ 1 1 (wArr k cs.toArray).toList (by rfl) (by rw [Array.length_toList, hW]) (by exact news_new w2 _ _) (by rw [HWL.out]; exact wcell_one _) (by unfold maxLen; omega) (by omega) ?_
    intro v' w3 hwin hgrow hat
    obtain ⟨va, vc, hvv⟩ := win_shape hwin
    subst hvv
    obtain ⟨S3, gf⟩ := K3.out _ w3 (below_alloc w2 _).drew hgrow
    have g4 := S3.2.1
    refine hK.out _ _ ⟨S3.1, S3.2.2⟩ (fun hHeld => ?_)
    clear hK K
    try simp only [Act.put, List.setIfInBounds_toArray, List.set_cons_zero, List.set_cons_succ]
    refine wpAnyH_take (i := 16) (oi := { dst := some 52, op := Op.nilCheck (Operand.tmp 36), type := 0, pos := "sector.go:104", after := #[{ on := 0, ground := Ground.data }, { on := 0, ground := Ground.phase }, { on := 1, ground := Ground.phase }, { on := 2, ground := Ground.phase }, { on := 3, ground := Ground.phase }, { on := 4, ground := Ground.phase }, { on := 5, ground := Ground.phase }, { on := 6, ground := Ground.phase }, { on := 7, ground := Ground.phase }, { on := 8, ground := Ground.phase }, { on := 9, ground := Ground.phase }, { on := 10, ground := Ground.phase }, { on := 11, ground := Ground.phase }, { on := 12, ground := Ground.phase }, { on := 13, ground := Ground.phase }, { on := 14, ground := Ground.phase }, { on := 15, ground := Ground.phase }], guard := none }) (v := .pointer (some ⟨p.D, 0, none⟩)) rfl (by kernel_rfl) (by kernel_rfl) (by kernel_rfl) (fun _ _ _ h => h) (Or.inl ⟨by rfl, by intro wS hSw; go_simp⟩) hHeld ?_
    simp only [Act.put, List.setIfInBounds_toArray, List.set_cons_zero, List.set_cons_succ]
    refine wpAnyH_take (i := 17) (oi := { dst := some 53, op := Op.fieldAddr 100 (Operand.tmp 52) 4, type := 0, pos := "sector.go:104", after := #[{ on := 16, ground := Ground.data }, { on := 0, ground := Ground.phase }, { on := 1, ground := Ground.phase }, { on := 2, ground := Ground.phase }, { on := 3, ground := Ground.phase }, { on := 4, ground := Ground.phase }, { on := 5, ground := Ground.phase }, { on := 6, ground := Ground.phase }, { on := 7, ground := Ground.phase }, { on := 8, ground := Ground.phase }, { on := 9, ground := Ground.phase }, { on := 10, ground := Ground.phase }, { on := 11, ground := Ground.phase }, { on := 12, ground := Ground.phase }, { on := 13, ground := Ground.phase }, { on := 14, ground := Ground.phase }, { on := 15, ground := Ground.phase }], guard := none }) (v := .pointer (some ⟨p.D, 4, none⟩)) rfl (by kernel_rfl) (by kernel_rfl) (by kernel_rfl) (fun _ _ _ h => h) (Or.inl ⟨by rfl, by intro wS hSw; go_simp⟩) hHeld ?_
    simp only [Act.put, List.setIfInBounds_toArray, List.set_cons_zero, List.set_cons_succ]
    refine wpAnyH_ready (rs := [18]) (by kernel_rfl) (by simp) (AllReadyH.cons (o := { dst := none, op := Op.store 98 (Operand.tmp 53) (Operand.tmp 51), type := 0, pos := "sector.go:104", after := #[{ on := 17, ground := Ground.data }, { on := 15, ground := Ground.data }, { on := 15, ground := Ground.chain }, { on := 0, ground := Ground.phase }, { on := 1, ground := Ground.phase }, { on := 2, ground := Ground.phase }, { on := 3, ground := Ground.phase }, { on := 4, ground := Ground.phase }, { on := 5, ground := Ground.phase }, { on := 6, ground := Ground.phase }, { on := 7, ground := Ground.phase }, { on := 8, ground := Ground.phase }, { on := 9, ground := Ground.phase }, { on := 10, ground := Ground.phase }, { on := 11, ground := Ground.phase }, { on := 12, ground := Ground.phase }, { on := 13, ground := Ground.phase }, { on := 14, ground := Ground.phase }, { on := 15, ground := Ground.phase }], guard := none }) rfl (fun K hK => ?_) AllReadyH.nil)
    go_simp
    refine hK.out _ _ (K4.out _ ⟨S3.1, S3.2.2⟩ _) (fun hHeld => ?_)
    clear hK K
    try simp only [Act.put, List.setIfInBounds_toArray, List.set_cons_zero, List.set_cons_succ]
    refine wpAnyH_done (by kernel_rfl) ?_ _
    refine NoPanic.normal ?_
    go_wp2
    go_ret
    refine ⟨rfl, ?_⟩
    have hbase1 : base ≤ w1.heap.size := Nat.le_trans HB.out HS.out.below.size
    have hwin' : Win w3 65 (.slice va (s.since.length + 1) vc) (s.take.since.length + 1) (wcells s.take.since ++ wcell (k, l)) := by rw [← HWL.out]; exact hwin
    obtain ⟨p', tag', e1, e2, e3⟩ := HP.out.written hbase1 k hk l HLL.out HLB.out (.slice va (s.since.length + 1) vc) (by rw [← HW2.out]; exact (below_alloc w2 (.cells (wArr k cs.toArray) 105)).drew) (by rw [HU.out]; exact hgrow) (by rw [HU.out]; exact hat) hwin'
    rw [HD.out] at e1 e2 e3
    exact ⟨p', tag', e1, e2, HS.out.trans e3⟩

end Go.Proofs.YtafkkehcacdodaaGreat

namespace Go.Proofs.YtafkkehcacdodaaGreat
open Go.RowKit

set_option maxHeartbeats 1000000 in
theorem write_fail (w : World) (tag : Nat → Nat) (base o : Nat) (s : St) (p : PL) (h : PD w tag base o s p) (k : Nat) (hk : k < s.n) (v : Value) (l : List Int) (hv : Bts w v l) (hl : l.length = 64)
    (hops : s.ops ≤ 1000000) (hout : s.outs.length ≤ 1000000) (hd : doneB s.out = false) :
    Calls Tryz.prog 110 #[.pointer (some ⟨p.D, 0, none⟩), .int .i64 k, v] w fun e w' => e = .returned (.int .i64 (errC s.out)) ∧ ∃ p', p'.D = p.D ∧ PD w' tag base o s.take p' ∧ Step tag tag base o w w' := by
  have hb : hasB s.n (k : Int) = true := by unfold hasB; simp; omega
  have HA := attempt_ok w tag base o s p h hops hout
  have HM := made_ok w tag base o s p h
  have HH := has_ok w tag base o s p h k
  obtain ⟨a, c, hvs, hlc, hmc, _⟩ := bts_src hv
  rw [hl] at hvs hlc
  unfold maxLen at hmc
  subst hvs
  clear h hv hl
  go_enter Tryz.func110, Tryz.ntmps110
  go_wp2_with (first
    | (go_at_call 41; refine HM.mono ?_; rintro e w' ⟨rfl, hx⟩; have HX1 : Hid (w' = w) := hx; clear hx; rw [HX1.out])
    | (go_at_call 94; refine HH.mono ?_; rintro e w' ⟨rfl, hx⟩; have HX2 : Hid (w' = w) := hx; clear hx; rw [HX2.out])
    | (go_at_call 128; refine HA.mono ?_; rintro e w1 ⟨rfl, p1, hD, hP, hS⟩))
  go_ret
  exact ⟨rfl, p1, hD, hP, hS⟩

/-- Write, whatever the outcome. -/
theorem write_ok (w : World) (tag : Nat → Nat) (base o : Nat) (s : St) (p : PL) (h : PD w tag base o s p) (hbase : base ≤ w.heap.size) (k : Nat) (hk : k < s.n) (v : Value) (l : List Int) (hv : Bts w v l) (hl : l.length = 64)
    (hvo : ∀ g, v.ownBlock = some g → tag g / 16 ≠ o) (hops : s.ops ≤ 1000000) (hout : s.outs.length ≤ 1000000) (hsin : s.since.length ≤ 1000000) :
    Calls Tryz.prog 110 #[.pointer (some ⟨p.D, 0, none⟩), .int .i64 k, v] w fun e w' => e = .returned (.int .i64 (errC s.out)) ∧ ∃ p' tag', p'.D = p.D ∧ PD w' tag' base o (s.write k l) p' ∧ Step tag tag' base o w w' := by
  by_cases hd : doneB s.out = true
  · refine (write_done w tag base o s p h hbase k hk v l hv hl hvo hops hout hsin hd).mono ?_
    rintro e w' ⟨rfl, p', tag', e1, e2, e3⟩
    exact ⟨rfl, p', tag', e1, by unfold St.write; rw [if_pos hd]; exact e2, e3⟩
  · have hd' : doneB s.out = false := by simpa using hd
    refine (write_fail w tag base o s p h k hk v l hv hl hops hout hd').mono ?_
    rintro e w' ⟨rfl, p', e1, e2, e3⟩
    exact ⟨rfl, p', tag, e1, by unfold St.write; rw [if_neg hd]; exact e2, e3⟩

/-- The i-th Write's cells in the window. -/
theorem PD.uAt {w : World} {tag : Nat → Nat} {base o : Nat} {s : St} {p : PL} (h : PD w tag base o s p) (hne : 0 < s.since.length) : ∃ g oo cap, p.uv = .slice (some ⟨g, oo, none⟩) s.since.length cap ∧ s.since.length ≤ cap ∧ cap ≤ maxLen ∧
    ∀ i, i < s.since.length → w.rangeAt g (oo + i * 65) (wcell (s.since.getD i (0, []))) := by
  rcases h.wU.2 with ⟨_, h0⟩ | ⟨g, oo, cap, cs, h1, hb, h2, h3, h4, h5⟩
  · omega
  refine ⟨g, oo, cap, h1, h2, h3, fun i hi => ?_⟩
  have hwl : ∀ x ∈ s.since, x.2.length = 64 := fun x hx => (h.ok.wr x hx).2.1
  have e := wcells_at hwl i hi
  rw [← h5, List.drop_take, List.drop_drop, List.take_take] at e
  rw [Nat.min_eq_left (by omega)] at e
  rw [← e]
  exact hb.range _ _

theorem wcell_arr (x : Nat × List Int) : (wcell x) = (wArr x.1 (bytesV x.2).toArray).toList := (wArr_list x.1 x.2).symm

/-- What settle has done behind k Writes. -/
structure Mid (w0 : World) (tag : Nat → Nat) (base o : Nat) (s : St) (p : PL) (k : Nat) (w : World) : Prop where
  row : Row w 64 p.C p.cC s.n (bytesV (lays s.sure (s.since.take k)))
  kept : ∀ g, g < w0.heap.size → g ≠ p.C → w.heap[g]? = w0.heap[g]?
  below : Below base w0 w
  size : w0.heap.size ≤ w.heap.size

set_option maxHeartbeats 4000000 in
theorem settle_ok (w : World) (tag : Nat → Nat) (base o : Nat) (s : St) (p : PL) (h : PD w tag base o s p) (hbase : base ≤ w.heap.size) (hsin : s.since.length ≤ 1000000) :
    Calls Tryz.prog 129 #[.pointer (some ⟨p.D, 0, none⟩)] w fun e w' => e = .returned (.tuple #[]) ∧ ∃ p', p'.D = p.D ∧ PD w' tag base o s.settled p' ∧ Step tag tag base o w w' := by
  have h4 := h.d4
  obtain ⟨ua, uc, hU, hU2, hU3⟩ := h.uform
  rw [hU] at h4
  have HU : Hid (p.uv = .slice ua s.since.length uc) := hU
  clear hU
  unfold maxLen at hU3
  have HP : Hid (PD w tag base o s p) := h
  have HB : Hid (base ≤ w.heap.size) := hbase
  clear h hbase
  go_enter Tryz.func129, Tryz.ntmps129
  go_wp2
  go_loopw [9] (fun i wr => ∃ k : Nat, k ≤ s.since.length ∧ i = .int .i64 k ∧ Mid w tag base o s p k wr) (fun i _ => s.since.length - (intOf i).toNat)
  case atStart => exact ⟨0, Nat.zero_le _, rfl, by simpa [lays] using HP.out.rC, fun _ _ _ => rfl, Below.refl _ _, Nat.le_refl _⟩
  case round =>
    obtain ⟨k, hk, rfl, hM⟩ := hrel
    by_cases hlt : k < s.since.length
    · have hltI : (k : Int) < (s.since.length : Int) := by omega
      obtain ⟨g, oo, cap, hv, _, _, hr⟩ := HP.out.uAt (by omega)
      rw [HU.out] at hv
      simp only [Value.slice.injEq, true_and] at hv
      obtain ⟨rfl, rfl⟩ := hv
      obtain ⟨wa, wb, wc⟩ := wr_at HP.out.ok k hlt
      have hrk := hr k hlt
      rw [wcell_arr] at hrk
      have HL1 : Hid (bytesV (lays s.sure (s.since.take (k + 1))) = splice (bytesV (lays s.sure (s.since.take k))) ((s.since.getD k (0, [])).1 * 64) (bytesV (s.since.getD k (0, [])).2)) := by
        show _ = _
        rw [List.take_succ_eq_append_getElem hlt, lays_snoc, List.getD_eq_getElem?_getD, List.getElem?_eq_getElem hlt]
        exact splice_map _ _ _ _
      have hglt : g < w.heap.size := HP.out.wU.lt g (by rw [HU.out]; rfl)
      have hgC : g ≠ p.C := fun e => by have a := (HP.out.tU g (by rw [HU.out]; rfl)).1; have b := HP.out.tC.1; rw [e] at a; omega
      have hDC : p.D ≠ p.C := fun e => by have a := HP.out.tD.1; have b := HP.out.tC.1; rw [e] at a; omega
      have h1 : ∀ v ∈ bytesV (s.since.getD k (0, [])).2, v.oneCell' = true := ones_bytes _
      have hcs : (bytesV (s.since.getD k (0, [])).2).length = 64 := by rw [List.length_map]; exact wb
      generalize (s.since.getD k (0, [])).1 = a at *
      generalize bytesV (s.since.getD k (0, [])).2 = cs at *
      have hn2 := HP.out.ok.n2
      have haI : (a : Int) < (s.n : Int) := by omega
      have hW : (wArr a cs.toArray).size = 65 := wArr_size a _ (by simpa using hcs)
      have hW1 : (wArr a cs.toArray).all (·.oneCell') = true := by
        unfold wArr
        rw [Array.all_append]
        simp only [Bool.and_eq_true]
        exact ⟨by simp [Value.oneCell'], all_oneCell_toArray h1⟩
      have hrw : wr.rangeAt g (oo + k * 65) (wArr a cs.toArray).toList := fun j v hv => by
        rw [World.cell?_of_block (w := w) (a := ⟨g, _, none⟩) (hM.kept g hglt hgC)]
        exact hrk j v hv
      have hbl := blk_new wr (wArr a cs.toArray) 105
      have hlist : (wArr a cs.toArray).toList = .int .i64 a :: cs := by unfold wArr; simp
      rw [hlist] at hbl
      have hMsz := hM.size
      have hDlt : p.D < w.heap.size := HP.out.bD.lt
      have hXD : (wr.alloc (.cells (wArr a cs.toArray) 105)).heap[p.D]? = w.heap[p.D]? := by
        rw [Below.heap_alloc _ _ _ (by omega)]; exact hM.kept p.D hDlt hDC
      have hXD2 : Blk (wr.alloc (.cells (wArr a cs.toArray) 105)) p.D _ := HP.out.bD.same hXD
      have hXC : Row (wr.alloc (.cells (wArr a cs.toArray) 105)) 64 p.C p.cC s.n _ := hM.row.later (below_alloc _ _)
      have hClt := HP.out.rC.lt
      have hD := hXD2.cell 2
      have hc0 := hbl.cell 0
      have hrc := hbl.range 1 64
      have hth := hXC.there (a * 64) 64 (by omega)
      have e64 : (List.drop 1 (Value.int .i64 (a : Int) :: cs)).take 64 = cs := by simp [List.take_of_length_le (Nat.le_of_eq hcs)]
      rw [e64] at hrc
      simp only [List.getElem?_cons_succ, List.getElem?_cons_zero] at hD hc0
      have K1 : Hid ((wr.alloc (.cells (wArr a cs.toArray) 105)).drew.cell? ⟨p.D, 2, none⟩ = some (.slice (some ⟨p.C, 0, none⟩) s.n p.cC) ∧ (wr.alloc (.cells (wArr a cs.toArray) 105)).drew.cell? ⟨wr.heap.size, 0, none⟩ = some (.int .i64 a) ∧ (wr.alloc (.cells (wArr a cs.toArray) 105)).drew.rangeAt wr.heap.size 1 cs ∧ (wr.alloc (.cells (wArr a cs.toArray) 105)).drew.there p.C (a * 64) 64) := ⟨hD, hc0, hrc, hth⟩
      have K2 : Hid (((wr.alloc (.cells (wArr a cs.toArray) 105)).drew.setCells p.C (a * 64) cs).cell? ⟨p.D, 2, none⟩ = some (.slice (some ⟨p.C, 0, none⟩) s.n p.cC) ∧ ((wr.alloc (.cells (wArr a cs.toArray) 105)).drew.setCells p.C (a * 64) cs).cell? ⟨wr.heap.size, 0, none⟩ = some (.int .i64 a) ∧ ((wr.alloc (.cells (wArr a cs.toArray) 105)).drew.setCells p.C (a * 64) cs).rangeAt wr.heap.size 1 cs ∧ ((wr.alloc (.cells (wArr a cs.toArray) 105)).drew.setCells p.C (a * 64) cs).there p.C (a * 64) 64) := by
        obtain ⟨q1, q2, q3, q4⟩ := K1.out
        refine ⟨?_, ?_, World.rangeAt_setCells_apart q3 _ _ _ (.inl (by omega)), World.there_setCells q4 _ _ _⟩
        · rw [World.cell?_setCells_out _ _ _ _ _ (fun e _ => absurd e hDC)]; exact q1
        · rw [World.cell?_setCells_out _ _ _ _ _ (fun e _ => absurd e (by show wr.heap.size ≠ p.C; omega))]; exact q2
      have hu := Tryz.underlying103
      have hi : (Tryz.prog.info? 103).map (·.size) = some cs.length := by rw [hcs]; exact sizeC
      have HM : Hid (Mid w tag base o s p k wr) := hM
      clear hM hr hrk hbl hlist hXD hXD2 hXC hD hc0 hrc hth e64
      go_wp2_with (first
        | (refine load_w rfl (.tmp 11) rfl g (oo + k * 65) rfl (wArr a cs.toArray) hrw hW ?_)
        | (refine alloc_w rfl rfl ?_)
        | (refine store_w rfl (.tmp 3) (.tmp 12) rfl _ _ rfl rfl (wArr a cs.toArray) rfl rfl hW hW1 ?_))
      go_region_held3 (fun w' => w'.cell? ⟨p.D, 2, none⟩ = some (.slice (some ⟨p.C, 0, none⟩) s.n p.cC) ∧ w'.cell? ⟨wr.heap.size, 0, none⟩ = some (.int .i64 a) ∧ w'.rangeAt wr.heap.size 1 cs ∧ w'.there p.C (a * 64) 64)
        (first | (with_reducible exact K1.out) | (with_reducible exact K2.out)) (fail)
      go_wp2
      go_roundw
      case rel =>
        refine ⟨k + 1, by omega, by go_num, ?_, ?_, ?_, ?_⟩
        · rw [HL1.out]
          have r1 : Row (wr.alloc (.cells (wArr a cs.toArray) 105)).drew 64 p.C p.cC s.n _ := HM.out.row.later (below_alloc _ _).drew
          exact r1.sets (a * 64) cs (by rw [hcs]; omega)
        · intro q hq hne
          rw [heap_setCells_other q p.C hne]
          show (wr.alloc _).heap[q]? = _
          rw [Below.heap_alloc _ _ _ (by omega)]
          exact HM.out.kept q hq hne
        · exact (HM.out.below.alloc (Nat.le_trans HB.out hMsz) _).drew.trans (below_setCells p.C HP.out.tC.2 cs (a * 64))
        · rw [size_setCells]
          show _ ≤ (wr.alloc _).heap.size
          simp; omega
      case measure => simp [intOf]; omega
    · have hke : k = s.since.length := by omega
      subst hke
      have hDC : p.D ≠ p.C := fun e => by have a := HP.out.tD.1; have b := HP.out.tC.1; rw [e] at a; omega
      have hbD : Blk wr p.D _ := HP.out.bD.same (hM.kept p.D HP.out.bD.lt hDC)
      have f4 := hbD.frozen 4
      have c4 := hbD.cell 4
      simp only [List.getElem?_cons_succ, List.getElem?_cons_zero] at c4
      have HM : Hid (Mid w tag base o s p s.since.length wr) := hM
      have HBD : Hid (Blk wr p.D [.pointer (some ⟨p.Q, 0, none⟩), .func (.func 67) #[.pointer (some ⟨p.Q, 0, none⟩)] #[], .slice (some ⟨p.C, 0, none⟩) s.n p.cC, .slice (some ⟨p.L, 0, none⟩) s.n p.cL, p.uv]) := hbD
      clear hM hbD
      go_wp2
      refine bodyPost_end (results_none rfl _ _ _) rfl ?_
      refine ⟨rfl, { p with uv := .slice none 0 0 }, rfl, ?_, ?_⟩
      · have hP := HP.out
        have hM := HM.out
        have all : ∀ {g T : Nat}, g < w.heap.size → tag g = T → T ≠ 16 * o + 1 → T ≠ 16 * o + 3 → (wr.setCell ⟨p.D, 4, none⟩ (.slice none 0 0)).heap[g]? = w.heap[g]? := fun {g T} hg ht n1 n3 => by
          rw [heap_setCell_other _ _ g _ (fun e => n1 (by rw [← ht, show g = p.D from e]; exact hP.tD.1))]
          exact hM.kept g hg (fun e => n3 (by rw [← ht, e]; exact hP.tC.1))
        refine ⟨by simpa [St.settled] using HBD.out.set 4 (.slice none 0 0), hP.bQ.same (all hP.bQ.lt hP.tQ.1 (by omega) (by omega)), ?_, hP.rL.same (all hP.rL.lt hP.tL.1 (by omega) (by omega)), hP.wW.same (fun g hg => all (hP.wW.lt g hg) (hP.tW g hg).1 (by omega) (by omega)), win_nil _ _, hP.tD, hP.tQ, hP.tC, hP.tL, hP.tW, fun g hg => by simp [Value.ownBlock] at hg, hP.ok.settled⟩
        have hr := hM.row
        rw [List.take_length, ← hP.ok.eq] at hr
        exact hr.same (heap_setCell_other _ _ _ _ (fun e => hDC e.symm))
      · refine Step.set ?_ HP.out.tD.2 (by have := HP.out.tD.1; omega) 4 _
        exact ⟨HM.out.below, fun _ _ => rfl, fun q hq hne => HM.out.kept q hq (fun e => hne (by rw [e]; have := HP.out.tC.1; omega))⟩

set_option maxHeartbeats 1000000 in
theorem sync_ok (w : World) (tag : Nat → Nat) (base o : Nat) (s : St) (p : PL) (h : PD w tag base o s p) (hbase : base ≤ w.heap.size) (hops : s.ops ≤ 1000000) (hout : s.outs.length ≤ 1000000) (hsin : s.since.length ≤ 1000000) :
    Calls Tryz.prog 112 #[.pointer (some ⟨p.D, 0, none⟩)] w fun e w' => e = .returned (.int .i64 (errC s.out)) ∧ ∃ p', p'.D = p.D ∧ PD w' tag base o s.sync p' ∧ Step tag tag base o w w' := by
  have HA := attempt_ok w tag base o s p h hops hout
  have HM := made_ok w tag base o s p h
  have HB : Hid (base ≤ w.heap.size) := hbase
  clear h hbase
  by_cases hd : doneB s.out = true
  · have HS : Hid (s.sync = s.take.settled) := by show _ = _; unfold St.sync; rw [if_pos hd]
    go_enter Tryz.func112, Tryz.ntmps112
    go_wp2_with (first
      | (go_at_call 41; refine HM.mono ?_; rintro e w' ⟨rfl, hx⟩; have HX1 : Hid (w' = w) := hx; clear hx; rw [HX1.out])
      | (go_at_call 128; refine HA.mono ?_; rintro e w1 ⟨rfl, p1, hD, hP, hS⟩; have HT := settle_ok w1 tag base o s.take p1 hP (Nat.le_trans HB.out hS.below.size) hsin; rw [hD] at HT; clear hP)
      | (go_at_call 129; refine HT.mono ?_; rintro e w2 ⟨rfl, p2, hD2, hP2, hS2⟩))
    go_ret
    exact ⟨rfl, p2, hD2, by rw [HS.out]; exact hP2, hS.trans hS2⟩
  · have hd' : doneB s.out = false := by simpa using hd
    have HS : Hid (s.sync = s.take) := by show _ = _; unfold St.sync; rw [if_neg hd]
    clear hd
    go_enter Tryz.func112, Tryz.ntmps112
    go_wp2_with (first
      | (go_at_call 41; refine HM.mono ?_; rintro e w' ⟨rfl, hx⟩; have HX1 : Hid (w' = w) := hx; clear hx; rw [HX1.out])
      | (go_at_call 128; refine HA.mono ?_; rintro e w1 ⟨rfl, p1, hD, hP, hS⟩))
    go_ret
    exact ⟨rfl, p1, hD, by rw [HS.out]; exact hP, hS⟩

end Go.Proofs.YtafkkehcacdodaaGreat

namespace Go.Proofs.YtafkkehcacdodaaGreat
open Go.RowKit

theorem step_copy_run {P : Program} {ops : Array Oper} {o : Oper} {a : Act} {w : World} {K : Act → World → Prop} {Q : Exit → Act → World → Prop} {E : Prop} (hgd : o.guard = none) (s x : Operand) (t : TypeId)
    (ho : o.op = .call { callee := .builtin .copy, args := #[s, x], argTypes := #[t, t] }) (v u : Value) (hs : a.eval s = v) (hx : a.eval x = u) {v' : Value} {w' : World}
    (hr : (Builtin.copy_ #[t, t] o.type #[v, u]).run P w = .ok v' w') (h : K (a.put o.dst v') w') : if Region.wanted o (yielded ops a.tmps) = true then Oper.wp P o a w K Q else E := by
  have hw : Region.wanted o (yielded ops a.tmps) = true := by simp [Region.wanted, hgd]
  rw [if_pos hw]
  unfold Oper.wp execOp
  simp only [ho, resolve, invoke, builtin, Sem.run_bind, Sem.run_pure, Result.andThen_ok, List.map_toArray, List.map_cons, List.map_nil, hs, hx, hr]
  exact h

theorem copy_part (w : World) (b o N m : Nat) (cs : List Value) (hm : m ≤ 64) (hcs : cs.length = 64) (hr : w.rangeAt N 1 cs) (hth : w.there b o 64) (h1 : ∀ v ∈ cs, v.oneCell' = true) :
    (Builtin.copy_ #[39, 39] 3 #[.slice (some ⟨b, o, none⟩) m 64, .slice (some ⟨N, 1, none⟩) m 64]).run Tryz.prog w = .ok (.int .i64 m) (w.setCells b o (cs.take m)) := by
  have hl : (cs.take m).length = m := by simp; omega
  have := run_copy_cells (P := Tryz.prog) w 39 39 3 5 b o m 64 ⟨N, 1, none⟩ m 64 (cs.take m) Tryz.underlying39 size5 (by rw [hl]; exact (Nat.min_self m).symm)
    (fun j v hv => by
      rw [add_at]
      rw [List.getElem?_take] at hv
      split at hv
      · exact hr j v hv
      · cases hv) (fun j hj => (hth j (by omega)).1) (fun j hj => (hth j (by omega)).2) (fun v hv => h1 v (List.mem_of_mem_take hv))
  rw [this, hl]; rfl

set_option maxHeartbeats 4000000 in
theorem crash_ok (w : World) (tag : Nat → Nat) (base o o' : Nat) (s : St) (p : PL) (h : PD w tag base o s p) (hbase : base ≤ w.heap.size) (hsin : s.since.length ≤ 1000000) (v : Value) (ch : List Int) (hv : Bts w v ch) :
    Calls Tryz.prog 13 #[.pointer (some ⟨p.D, 0, none⟩), v] w fun e w' => ∃ p2 tag', e = .returned (.pointer (some ⟨p2.D, 0, none⟩)) ∧ PD w' tag' base o' (s.crash ch) p2 ∧ (∀ k, k < w.heap.size → tag' k = tag k) ∧ Below w.heap.size w w' := by
  have h4 := h.d4
  have h2 := h.d2
  obtain ⟨ua, uc, hU, hU2, hU3⟩ := h.uform
  rw [hU] at h4
  have HU : Hid (p.uv = .slice ua s.since.length uc) := hU
  clear hU
  unfold maxLen at hU3
  have HP : Hid (PD w tag base o s p) := h
  have HB : Hid (base ≤ w.heap.size) := hbase
  have HMd := made_ok w tag base o s p h
  have hn1 := h.ok.n1
  have hn2 := h.ok.n2
  have HC := clone_ok w p.C p.cC s.n (bytesV s.sure) h.rC hn1 hn2 (ones_bytes _)
  obtain ⟨va, vc, hvs, _, _, _⟩ := bts_src hv
  subst hvs
  have HV : Hid (Bts w (.slice va ch.length vc) ch) := hv
  clear h hbase hv
  go_enter Tryz.func13, Tryz.ntmps13
  go_wp2_with (first
    | (go_at_call 41; refine HMd.mono ?_; rintro e w' ⟨rfl, hx⟩; have HX1 : Hid (w' = w) := hx; clear hx; rw [HX1.out])
    | (go_at_call 43; refine HC.mono ?_; rintro e w1 ⟨G, c, rfl, hG, hRG, hB⟩; have g4 := cell_later hB h4; have HR : Hid (Row w1 64 G c s.n (bytesV s.sure)) := hRG; have HB1 : Hid (Below w.heap.size w w1) := hB; have HG : Hid (w.heap.size ≤ G) := hG; clear hRG hB hG))
  go_loopw [22] (fun i wr => ∃ k : Nat, k ≤ s.since.length ∧ i = .int .i64 k ∧ Row wr 64 G c s.n (bytesV (torn ch s.sure s.since k)) ∧ Below w.heap.size w wr) (fun i _ => s.since.length - (intOf i).toNat)
  case atStart => exact ⟨0, Nat.zero_le _, rfl, HR.out, HB1.out⟩
  case round =>
    obtain ⟨k, hk, rfl, hrow, hbel⟩ := hrel
    by_cases hlt : k < s.since.length
    · have hltI : (k : Int) < (s.since.length : Int) := by omega
      obtain ⟨g, oo, cap, hvv, _, _, hr⟩ := HP.out.uAt (by omega)
      rw [HU.out] at hvv
      simp only [Value.slice.injEq, true_and] at hvv
      obtain ⟨rfl, rfl⟩ := hvv
      obtain ⟨wa, wb, wc⟩ := wr_at HP.out.ok k hlt
      have hrk := hr k hlt
      rw [wcell_arr] at hrk
      have HL1 : Hid (bytesV (torn ch s.sure s.since (k + 1)) = splice (bytesV (torn ch s.sure s.since k)) ((s.since.getD k (0, [])).1 * 64) ((bytesV (s.since.getD k (0, [])).2).take (leftN ch k))) := by
        show _ = _
        rw [← List.map_take]
        exact splice_map _ _ _ _
      have h1 : ∀ v ∈ bytesV (s.since.getD k (0, [])).2, v.oneCell' = true := ones_bytes _
      have hcs : (bytesV (s.since.getD k (0, [])).2).length = 64 := by rw [List.length_map]; exact wb
      have hm := leftN_le ch k
      have hsz := hbel.size
      generalize (s.since.getD k (0, [])).1 = a at *
      generalize bytesV (s.since.getD k (0, [])).2 = cs at *
      have haI : (a : Int) < (s.n : Int) := by omega
      have hW : (wArr a cs.toArray).size = 65 := wArr_size a _ (by simpa using hcs)
      have hW1 : (wArr a cs.toArray).all (·.oneCell') = true := by
        unfold wArr
        rw [Array.all_append]
        simp only [Bool.and_eq_true]
        exact ⟨by simp [Value.oneCell'], all_oneCell_toArray h1⟩
      have hrw : wr.rangeAt g (oo + k * 65) (wArr a cs.toArray).toList := fun j v hv => cell_later hbel (hrk j v hv)
      have hbl := blk_new wr (wArr a cs.toArray) 105
      have hlist : (wArr a cs.toArray).toList = .int .i64 a :: cs := by unfold wArr; simp
      rw [hlist] at hbl
      have hXB : Below wr.heap.size wr (wr.alloc (.cells (wArr a cs.toArray) 105)) := below_alloc _ _
      have hXC : Row (wr.alloc (.cells (wArr a cs.toArray) 105)) 64 G c s.n _ := hrow.later hXB
      have hGlt := hrow.lt
      have hc0 := hbl.cell 0
      have hrc := hbl.range 1 64
      have hth := hXC.there (a * 64) 64 (by omega)
      have e64 : (List.drop 1 (Value.int .i64 (a : Int) :: cs)).take 64 = cs := by simp [List.take_of_length_le (Nat.le_of_eq hcs)]
      rw [e64] at hrc
      simp only [List.getElem?_cons_zero] at hc0
      have HLf := left_ok (wr.alloc (.cells (wArr a cs.toArray) 105)) (.slice va ch.length vc) ch k (HV.out.later (hbel.trans (hXB.mono hsz)))
      have hcp := copy_part (wr.alloc (.cells (wArr a cs.toArray) 105)).drew G (a * 64) wr.heap.size (leftN ch k) cs hm hcs hrc hth h1
      generalize hmm : leftN ch k = m at *
      clear hmm
      have hmI : (m : Int) ≤ 64 := by omega
      have HROW : Hid (Row (wr.alloc (.cells (wArr a cs.toArray) 105)).drew 64 G c s.n (bytesV (torn ch s.sure s.since k))) := hrow.later hXB.drew
      have HBEL : Hid (Below w.heap.size w (wr.alloc (.cells (wArr a cs.toArray) 105)).drew) := hbel.trans (hXB.drew.mono hsz)
      have K1 : (wr.alloc (.cells (wArr a cs.toArray) 105)).drew.cell? ⟨wr.heap.size, 0, none⟩ = some (.int .i64 a) := hc0
      have K2 : Hid (((wr.alloc (.cells (wArr a cs.toArray) 105)).drew.setCells G (a * 64) (cs.take m)).cell? ⟨wr.heap.size, 0, none⟩ = some (.int .i64 a)) := by
        show _ = _
        rw [World.cell?_setCells_out _ _ _ _ _ (fun e _ => absurd e (by show wr.heap.size ≠ G; omega))]; exact hc0
      clear hr hrk hbl hlist hXC hc0 hrc hth e64 hrow hbel hXB g4 h4 h2
      go_wp2_with (first
        | (refine load_w rfl (.tmp 25) rfl g (oo + k * 65) rfl (wArr a cs.toArray) hrw hW ?_)
        | (refine alloc_w rfl rfl ?_)
        | (refine store_w rfl (.tmp 7) (.tmp 26) rfl _ _ rfl rfl (wArr a cs.toArray) rfl rfl hW hW1 ?_)
        | (go_at_call 44; refine HLf.mono ?_; rintro e w' ⟨rfl, hx⟩; have HX2 : Hid (w' = wr.alloc (.cells (wArr a cs.toArray) 105)) := hx; clear hx; rw [HX2.out]))
      go_region_held3 (fun w' => w'.cell? ⟨wr.heap.size, 0, none⟩ = some (.int .i64 a))
        (first | (with_reducible exact K1) | (with_reducible exact K2.out)) ((refine step_copy_run rfl (.tmp 35) (.tmp 38) 39 rfl _ _ (by rfl) (by rfl) (by with_reducible exact hcp) ?_))
      go_wp2
      go_roundw
      case rel =>
        refine ⟨k + 1, by omega, by go_num, ?_, ?_⟩
        · rw [HL1.out]
          exact HROW.out.sets (a * 64) (cs.take m) (by rw [List.length_take, hcs]; omega)
        · exact HBEL.out.trans (below_setCells G HG.out _ _)
      case measure => simp [intOf]; omega
    · have hke : k = s.since.length := by omega
      subst hke
      obtain ⟨t1, t2⟩ := torn_len HP.out.ok ch s.since.length (Nat.le_refl _)
      have HH := holding_ok w wr tag base o' G c s.n (torn ch s.sure s.since s.since.length) HB.out hbel HG.out hrow hn1 hn2 t2
      clear hrow hbel t1 t2
      go_wp2_with (go_at_call 28; refine HH.mono ?_; rintro e w2 ⟨p2, tag', rfl, hP2, hT, hB2⟩)
      go_ret
      exact ⟨p2, tag', rfl, hP2, hT, hB2⟩

end Go.Proofs.YtafkkehcacdodaaGreat

namespace Go.Proofs.YtafkkehcacdodaaGreat
open Go.RowKit

theorem rep_snoc (k : Nat) (c : Int) : List.replicate (k + 1) c = List.replicate k c ++ [c] := by
  rw [List.replicate_succ']

theorem isBytes_rep (k : Nat) (c : Int) (h : 0 ≤ c ∧ c < 256) : isBytes (List.replicate k c) := fun z hz => by
  rw [List.eq_of_mem_replicate hz]; exact h

/-- Tags below a number alone. -/
def clip (tag : Nat → Nat) (N : Nat) : Nat → Nat := fun k => if k < N then tag k else 0

theorem clip_lt (tag : Nat → Nat) (N k : Nat) (h : k < N) : clip tag N k = tag k := by simp [clip, h]

theorem PD.clip {w w' : World} {tag : Nat → Nat} {base o : Nat} {s : St} {p : PL} (h : PD w tag base o s p) (hb : Below w.heap.size w w') : PD w' (clip tag w.heap.size) base o s p :=
  h.keep (fun k hk _ => hb.block k hk) (fun k hk => clip_lt tag _ k hk)

theorem Owns.tag0 {w : World} {N : Nat} {v : Value} {l : List Int} (h : Owns w N v l) (tag : Nat → Nat) (o : Nat) (ho : 1 ≤ o) : ∀ g, v.ownBlock = some g → clip tag N g / 16 ≠ o := fun g hg => by
  have := (h.lt g hg).1
  simp [clip, Nat.not_lt.2 this]; omega

theorem blk_bts {w : World} {g : Nat} {l : List Int} (h : Blk w g (bytesV l)) (hb : isBytes l) (hl : l.length ≤ maxLen) : Bts w (.slice (some ⟨g, 0, none⟩) l.length l.length) l :=
  ⟨_, _, g, 0, rfl, Nat.le_refl _, hl, hb, .inl rfl, fun i hi => by rw [Nat.zero_add, h.cell]; simp [List.getElem?_eq_getElem hi]⟩

/-- What Read answers, as bytes. -/
theorem read_bts (w w' : World) (l : List Int) (t : TypeId) (h : Below (w.alloc (.cells (bytesV l).toArray t)).heap.size (w.alloc (.cells (bytesV l).toArray t)) w') (hl : l.length = 64) (hb : isBytes l) : Bts w' (.slice (some ⟨w.heap.size, 0, none⟩) 64 64) l := by
  have := blk_bts ((blk_new w (bytesV l).toArray t).later h) hb (by rw [hl]; decide)
  rwa [hl] at this

theorem sameB_self (l : List Int) : sameB l l = true := by simp [sameB]

theorem sec_bytes {l : List Int} (h : isBytes l) (k : Nat) : isBytes (sec l k) := fun z hz => h z (List.mem_of_mem_drop (List.mem_of_mem_take hz))

theorem sec_splice (l b : List Int) (k n : Nat) (hl : l.length = n * 64) (hb : b.length = 64) (hk : k < n) : sec (splice l (k * 64) b) k = b := by
  have := splice_mid l b (k * 64) (by omega)
  rw [hb] at this
  exact this

theorem new_out (n : Nat) : (St.new n).out = 0 := rfl
theorem done0 : doneB 0 = true := by decide
theorem err0 : errC 0 = 0 := by decide

theorem write_okI (w : World) (tag : Nat → Nat) (base o : Nat) (s : St) (p : PL) (h : PD w tag base o s p) (hbase : base ≤ w.heap.size) (K : Int) (k : Nat) (hK : K = k) (hk : k < s.n) (v : Value) (l : List Int) (hv : Bts w v l) (hl : l.length = 64)
    (hvo : ∀ g, v.ownBlock = some g → tag g / 16 ≠ o) (hops : s.ops ≤ 1000000) (hout : s.outs.length ≤ 1000000) (hsin : s.since.length ≤ 1000000) (E : Int) (hE : errC s.out = E) :
    Calls Tryz.prog 110 #[.pointer (some ⟨p.D, 0, none⟩), .int .i64 K, v] w fun e w' => e = .returned (.int .i64 E) ∧ ∃ p' tag', p'.D = p.D ∧ PD w' tag' base o (s.write k l) p' ∧ Step tag tag' base o w w' := by
  subst hK; subst hE
  exact write_ok w tag base o s p h hbase k hk v l hv hl hvo hops hout hsin

theorem read_okI (w : World) (tag : Nat → Nat) (base o : Nat) (s : St) (p : PL) (h : PD w tag base o s p) (K : Int) (k : Nat) (hK : K = k) (hk : k < s.n) (l : List Int) (hl : sec s.now k = l) :
    Calls Tryz.prog 63 #[.pointer (some ⟨p.D, 0, none⟩), .int .i64 K] w fun e w' => ∃ v, e = .returned (.tuple #[v, .int .i64 0]) ∧ Bts w' v l ∧ (∀ g, v.ownBlock = some g → w.heap.size ≤ g) ∧ Below w.heap.size w w' := by
  subst hK; subst hl
  refine (read_ok w tag base o s p h k hk).mono ?_
  rintro e w' ⟨rfl, rfl⟩
  refine ⟨_, rfl, read_bts w _ _ _ (Below.refl _ _) (sec_len h.ok.nl hk) (sec_bytes h.ok.nb k), fun g hg => ?_, below_alloc _ _⟩
  simp [Value.ownBlock] at hg; omega

theorem write_done_eq {s : St} (h : s.out = 0) (k : Nat) (l : List Int) : s.write k l = s.take.wrote k l := by
  unfold St.write; rw [h, if_pos done0]

theorem below_drewN (w : World) (n : Nat) : Below w.heap.size w (w.drewN n) := ⟨rfl, rfl, rfl, Nat.le_refl _, fun _ _ => rfl⟩

end Go.Proofs.YtafkkehcacdodaaGreat

namespace Go.Proofs.YtafkkehcacdodaaGreat
open Go.RowKit

theorem sync_okD (w : World) (tag : Nat → Nat) (base o : Nat) (s : St) (p : PL) (h : PD w tag base o s p) (hbase : base ≤ w.heap.size) (hops : s.ops ≤ 1000000) (hout : s.outs.length ≤ 1000000) (hsin : s.since.length ≤ 1000000) (D : Nat) (hD : p.D = D) (E : Int) (hE : errC s.out = E) :
    Calls Tryz.prog 112 #[.pointer (some ⟨D, 0, none⟩)] w fun e w' => e = .returned (.int .i64 E) ∧ ∃ p', p'.D = D ∧ PD w' tag base o s.sync p' ∧ Step tag tag base o w w' := by
  subst hD; subst hE
  exact sync_ok w tag base o s p h hbase hops hout hsin

theorem crash_okD (w : World) (tag : Nat → Nat) (base o o' : Nat) (s : St) (p : PL) (h : PD w tag base o s p) (hbase : base ≤ w.heap.size) (hsin : s.since.length ≤ 1000000) (v : Value) (ch : List Int) (hv : Bts w v ch) (D : Nat) (hD : p.D = D) :
    Calls Tryz.prog 13 #[.pointer (some ⟨D, 0, none⟩), v] w fun e w' => ∃ p2 tag', e = .returned (.pointer (some ⟨p2.D, 0, none⟩)) ∧ PD w' tag' base o' (s.crash ch) p2 ∧ (∀ k, k < w.heap.size → tag' k = tag k) ∧ Below w.heap.size w w' := by
  subst hD
  exact crash_ok w tag base o o' s p h hbase hsin v ch hv

theorem outcomes_okD (w : World) (tag : Nat → Nat) (base o : Nat) (s : St) (p : PL) (h : PD w tag base o s p) (hbase : base ≤ w.heap.size) (v : Value) (l : List Int) (hv : Bts w v l) (hout : s.outs.length + l.length ≤ 1000000) (D : Nat) (hD : p.D = D) :
    Calls Tryz.prog 11 #[.pointer (some ⟨D, 0, none⟩), v] w fun e w' => e = .returned (.tuple #[]) ∧ ∃ p' tag', p'.D = D ∧ PD w' tag' base o (s.add l) p' ∧ Step tag tag' base o w w' := by
  subst hD
  exact outcomes_ok w tag base o s p h hbase v l hv hout

theorem write_okD (w : World) (tag : Nat → Nat) (base o : Nat) (s : St) (p : PL) (h : PD w tag base o s p) (hbase : base ≤ w.heap.size) (K : Int) (k : Nat) (hK : K = k) (hk : k < s.n) (v : Value) (l : List Int) (hv : Bts w v l) (hl : l.length = 64)
    (hvo : ∀ g, v.ownBlock = some g → tag g / 16 ≠ o) (hops : s.ops ≤ 1000000) (hout : s.outs.length ≤ 1000000) (hsin : s.since.length ≤ 1000000) (E : Int) (hE : errC s.out = E) (D : Nat) (hD : p.D = D) :
    Calls Tryz.prog 110 #[.pointer (some ⟨D, 0, none⟩), .int .i64 K, v] w fun e w' => e = .returned (.int .i64 E) ∧ ∃ p' tag', p'.D = D ∧ PD w' tag' base o (s.write k l) p' ∧ Step tag tag' base o w w' := by
  subst hD
  exact write_okI w tag base o s p h hbase K k hK hk v l hv hl hvo hops hout hsin E hE

theorem read_okD (w : World) (tag : Nat → Nat) (base o : Nat) (s : St) (p : PL) (h : PD w tag base o s p) (K : Int) (k : Nat) (hK : K = k) (hk : k < s.n) (l : List Int) (hl : sec s.now k = l) (D : Nat) (hD : p.D = D) :
    Calls Tryz.prog 63 #[.pointer (some ⟨D, 0, none⟩), .int .i64 K] w fun e w' => ∃ g, e = .returned (.tuple #[.slice (some ⟨g, 0, none⟩) 64 64, .int .i64 0]) ∧ Bts w' (.slice (some ⟨g, 0, none⟩) 64 64) l ∧ w.heap.size ≤ g ∧ g < w'.heap.size ∧ Below w.heap.size w w' := by
  subst hK; subst hl; subst hD
  refine (read_ok w tag base o s p h k hk).mono ?_
  rintro e w' ⟨rfl, rfl⟩
  exact ⟨_, rfl, read_bts w _ _ _ (Below.refl _ _) (sec_len h.ok.nl hk) (sec_bytes h.ok.nb k), Nat.le_refl _, by simp, below_alloc _ _⟩

/-- Bytes in memory that is no disk's. -/
def Held (w : World) (tag : Nat → Nat) (v : Value) (l : List Int) : Prop := Bts w v l ∧ ∀ g, v.ownBlock = some g → tag g = 0 ∧ g < w.heap.size

theorem Held.alloc {w w' : World} {tag : Nat → Nat} {v : Value} {l : List Int} (h : Held w tag v l) (hB : Below w.heap.size w w') : Held w' (clip tag w.heap.size) v l :=
  ⟨h.1.later hB, fun g hg => ⟨by rw [clip_lt _ _ _ (h.2 g hg).2]; exact (h.2 g hg).1, Nat.lt_of_lt_of_le (h.2 g hg).2 hB.size⟩⟩

theorem Held.step {w w' : World} {tag tag' : Nat → Nat} {base o : Nat} {v : Value} {l : List Int} (h : Held w tag v l) (hS : Step tag tag' base o w w') (ho : 1 ≤ o) : Held w' tag' v l :=
  ⟨bts_other h.1 hS (fun g hg => by rw [(h.2 g hg).1]; omega), fun g hg => ⟨by rw [hS.tags g (h.2 g hg).2]; exact (h.2 g hg).1, Nat.lt_of_lt_of_le (h.2 g hg).2 hS.below.size⟩⟩

theorem held_new {w w' : World} {tag : Nat → Nat} {v : Value} {l : List Int} (h : Bts w' v l) (hg : ∀ g, v.ownBlock = some g → w.heap.size ≤ g ∧ g < w'.heap.size) : Held w' (clip tag w.heap.size) v l :=
  ⟨h, fun g hgg => ⟨by simp [clip, Nat.not_lt.2 (hg g hgg).1], (hg g hgg).2⟩⟩

theorem Owns.held {w w' : World} {tag : Nat → Nat} {v : Value} {l : List Int} (h : Owns w' w.heap.size v l) (hb : isBytes l) : Held w' (clip tag w.heap.size) v l := held_new (h.bts hb) (fun g hg => h.lt g hg)

theorem Held.far {w : World} {tag : Nat → Nat} {v : Value} {l : List Int} (h : Held w tag v l) (o : Nat) (ho : 1 ≤ o) : ∀ g, v.ownBlock = some g → tag g / 16 ≠ o := fun g hg => by rw [(h.2 g hg).1]; omega

theorem held_read {w w' : World} {tag : Nat → Nat} {g : Nat} {l : List Int} (h : Bts w' (.slice (some ⟨g, 0, none⟩) 64 64) l) (h1 : w.heap.size ≤ g) (h2 : g < w'.heap.size) : Held w' (clip tag w.heap.size) (.slice (some ⟨g, 0, none⟩) 64 64) l :=
  held_new h (fun q hq => by simp [Value.ownBlock] at hq; subst hq; exact ⟨h1, h2⟩)

theorem Held.cell {w : World} {tag : Nat → Nat} {g : Nat} {l : List Int} (h : Held w tag (.slice (some ⟨g, 0, none⟩) 64 64) l) (k : Nat) (hk : k < l.length) : w.cell? ⟨g, k, none⟩ = some (.int .u8 (l.getD k 0)) := by
  obtain ⟨a, cap, b, off, hv, _, _, _, ha, hs⟩ := h.1
  simp only [Value.slice.injEq] at hv
  rcases ha with rfl | hnil
  · have := hv.1
    simp only [Option.some.injEq, Addr.mk.injEq, and_true] at this
    obtain ⟨rfl, rfl⟩ := this
    simpa using hs k hk
  · rw [hnil] at hk; simp at hk

end Go.Proofs.YtafkkehcacdodaaGreat

namespace Go.Proofs.YtafkkehcacdodaaGreat
open Go.RowKit

def wOk (s : St) (K : Int) (l : List Int) : Bool := hasB s.n K && decide (l.length = 64)
def wE (s : St) (K : Int) (l : List Int) : Int := if wOk s K l then errC s.out else 1
def wS (s : St) (K : Int) (l : List Int) : St := if wOk s K l then s.write K.toNat l else s

theorem write_any (w : World) (tag : Nat → Nat) (base o : Nat) (s : St) (p : PL) (h : PD w tag base o s p) (hbase : base ≤ w.heap.size) (K : Int) (v : Value) (l : List Int) (hv : Bts w v l)
    (hvo : ∀ g, v.ownBlock = some g → tag g / 16 ≠ o) (hops : s.ops ≤ 1000000) (hout : s.outs.length ≤ 1000000) (hsin : s.since.length ≤ 1000000) (D : Nat) (hD : p.D = D) :
    Calls Tryz.prog 110 #[.pointer (some ⟨D, 0, none⟩), .int .i64 K, v] w fun e w' => e = .returned (.int .i64 (wE s K l)) ∧ ∃ p' tag', p'.D = D ∧ PD w' tag' base o (wS s K l) p' ∧ Step tag tag' base o w w' := by
  subst hD
  by_cases hk : wOk s K l = true
  · have hk' := hk
    unfold wOk hasB at hk
    simp only [Bool.and_eq_true, decide_eq_true_eq] at hk
    have hK : K = (K.toNat : Int) := by omega
    have := write_okI w tag base o s p h hbase K K.toNat hK (by omega) v l hv hk.2 hvo hops hout hsin _ rfl
    unfold wE wS
    rw [if_pos hk', if_pos hk']
    exact this
  · have hk' : hasB s.n K = false ∨ l.length ≠ 64 := by
      unfold wOk at hk
      simp only [Bool.and_eq_true, decide_eq_true_eq, not_and] at hk
      by_cases hb : hasB s.n K = true
      · exact .inr (hk hb)
      · exact .inl (by simpa using hb)
    refine (write_no w tag base o s p h K v l hv hk').mono ?_
    rintro e w' ⟨rfl, rfl⟩
    unfold wE wS
    rw [if_neg hk, if_neg hk]
    exact ⟨rfl, p, tag, rfl, h, Step.refl _ _ _ _⟩

theorem bts_lt {w : World} {v : Value} {l : List Int} (h : Bts w v l) (hl : l ≠ []) : ∀ g, v.ownBlock = some g → g < w.heap.size := by
  obtain ⟨a, cap, b, off, rfl, _, _, _, ha, hs⟩ := h
  rcases ha with rfl | hn
  · intro g hg
    simp [Value.ownBlock] at hg
    subst hg
    exact World.block_lt_of_cell? w _ (hs 0 (List.length_pos_iff.2 hl))
  · exact absurd hn hl

/-- A disk's numbers stay small. -/
structure Few (s : St) (n q : Nat) : Prop where
  n : s.n = n
  ops : s.ops ≤ q
  sin : s.since.length ≤ q

theorem Few.take {s : St} {n q : Nat} (h : Few s n q) : Few s.take n (q + 1) := ⟨h.n, Nat.succ_le_succ h.ops, Nat.le_succ_of_le h.sin⟩

theorem Few.wS {s : St} {n q : Nat} (h : Few s n q) (K : Int) (l : List Int) : Few (wS s K l) n (q + 1) := by
  unfold Go.Proofs.YtafkkehcacdodaaGreat.wS
  split
  · unfold St.write
    split
    · exact ⟨h.n, Nat.succ_le_succ h.ops, by simp [St.wrote, St.take]; exact h.sin⟩
    · exact h.take
  · exact ⟨h.n, Nat.le_succ_of_le h.ops, Nat.le_succ_of_le h.sin⟩

theorem Few.sync {s : St} {n q : Nat} (h : Few s n q) : Few s.sync n (q + 1) := by
  unfold St.sync
  split
  · exact ⟨h.n, Nat.succ_le_succ h.ops, by simp [St.settled]⟩
  · exact h.take

theorem Few.add {s : St} {n q : Nat} (h : Few s n q) (l : List Int) : Few (s.add l) n (q + 1) := ⟨h.n, Nat.le_succ_of_le h.ops, Nat.le_succ_of_le h.sin⟩

theorem Few.crash {s : St} {n q : Nat} (h : Few s n q) (l : List Int) : Few (s.crash l) n (q + 1) := ⟨h.n, Nat.zero_le _, Nat.zero_le _⟩

theorem Few.mono {s : St} {n q : Nat} (h : Few s n q) : Few s n (q + 1) := ⟨h.n, Nat.le_succ_of_le h.ops, Nat.le_succ_of_le h.sin⟩

theorem outs_take (s : St) : s.take.outs.length ≤ s.outs.length := by simp [St.take]

theorem outs_wS (s : St) (K : Int) (l : List Int) : (wS s K l).outs.length ≤ s.outs.length := by
  unfold wS
  split
  · unfold St.write
    split
    · exact outs_take s
    · exact outs_take s
  · exact Nat.le_refl _

theorem outs_nil_wS (s : St) (K : Int) (l : List Int) (h : s.outs = []) : (wS s K l).outs = [] :=
  List.eq_nil_of_length_eq_zero (Nat.le_zero.1 (by have := outs_wS s K l; rw [h] at this; exact this))

theorem outs_sync (s : St) : s.sync.outs.length ≤ s.outs.length := by
  unfold St.sync
  split
  · exact outs_take s
  · exact outs_take s

theorem owns_mono {w : World} {N M : Nat} {v : Value} {l : List Int} (h : Owns w N v l) (hM : M ≤ N) : Owns w M v l := by
  refine ⟨h.1, ?_⟩
  rcases h.2 with h0 | ⟨g, cap, cur, hv, hg, r⟩
  · exact .inl h0
  · exact .inr ⟨g, cap, cur, hv, Nat.le_trans hM hg, r⟩

end Go.Proofs.YtafkkehcacdodaaGreat

namespace Go.Proofs.YtafkkehcacdodaaGreat
open Go.RowKit

theorem crcV_bd (l : List Int) (h : isBytes l) : 0 ≤ crcV l ∧ crcV l < 4294967296 := by
  have h1 := crcL_lt 4294967295 l (by decide) h
  have e : IntKind.u32.max = ((4294967295 : Nat) : Int) := by decide
  unfold crcV
  rw [e, u32_xor_nat' _ _ (by decide) h1]
  have : 4294967295 ^^^ crcL 4294967295 l < 4294967296 := Nat.xor_lt_two_pow (n := 32) (by decide) h1
  omega

/-- Four bytes of a number, the highest first. -/
def four (x : Int) : List Int := [x / 16777216 % 256, x / 65536 % 256, x / 256 % 256, x % 256]

theorem four_bytes (x : Int) : isBytes (four x) := by
  intro z hz
  simp only [four, List.mem_cons, List.not_mem_nil, or_false] at hz
  rcases hz with rfl | rfl | rfl | rfl <;> omega

theorem num_four (x : Int) (h0 : 0 ≤ x) (h1 : x < 4294967296) : num (four x) = x := by
  simp only [num, four, List.foldl_cons, List.foldl_nil]
  omega

/-- A record's frame. -/
def frameB (b : List Int) : List Int := 90 :: (b.length : Int) :: (b ++ (four (crcV b) ++ [165]))

theorem frameB_len (b : List Int) : (frameB b).length = b.length + 7 := by simp [frameB, four]

theorem frameB_bytes (b : List Int) (h : isBytes b) (hl : b.length ≤ 56) : isBytes (frameB b) := by
  intro z hz
  simp only [frameB, List.mem_cons, List.mem_append, List.not_mem_nil, or_false] at hz
  rcases hz with rfl | rfl | hz | hz | rfl
  · omega
  · omega
  · exact h z hz
  · exact four_bytes _ z hz
  · omega

/-- Do bytes begin with a frame? -/
def okB (b : List Int) : Bool := decide (2 ≤ b.length ∧ b.getD 0 0 = 90 ∧ 1 ≤ b.getD 1 0 ∧ b.getD 1 0 ≤ 56 ∧ (b.getD 1 0).toNat + 7 ≤ b.length ∧ b.getD ((b.getD 1 0).toNat + 6) 0 = 165 ∧
  num ((b.drop ((b.getD 1 0).toNat + 2)).take 4) = crcV ((b.drop 2).take (b.getD 1 0).toNat))

/-- The body of the frame that bytes begin with. -/
def bodyB (b : List Int) : List Int := (b.drop 2).take (b.getD 1 0).toNat

theorem bodyB_len {b : List Int} (h : okB b = true) : (bodyB b).length = (b.getD 1 0).toNat ∧ 1 ≤ (bodyB b).length ∧ (bodyB b).length ≤ 56 ∧ (bodyB b).length + 7 ≤ b.length := by
  obtain ⟨_, _, h1, h2, h3, _, _⟩ := of_decide_eq_true h
  have : (bodyB b).length = (b.getD 1 0).toNat := by simp only [bodyB, List.length_take, List.length_drop]; omega
  omega

theorem bodyB_bytes {b : List Int} (h : isBytes b) : isBytes (bodyB b) := isBytes_take (isBytes_drop h 2) _

def scanN : Nat → List Int → List (List Int)
  | 0, _ => []
  | f + 1, b => if okB b then bodyB b :: scanN f (b.drop ((bodyB b).length + 7)) else []

/-- The bodies of the frames that bytes begin with. -/
def scanB (b : List Int) : List (List Int) := scanN b.length b

theorem okB_nil {b : List Int} (h : b.length < 2) : okB b = false := by
  unfold okB; simp; omega

theorem scanN_more : ∀ (f : Nat) (b : List Int), b.length ≤ f → scanN f b = scanN b.length b := by
  intro f
  induction f using Nat.strongRecOn with
  | _ f ih =>
    intro b hb
    cases f with
    | zero =>
      have : b.length = 0 := by omega
      rw [this]
    | succ f =>
      by_cases hk : okB b = true
      · have hl := bodyB_len hk
        have hd : (b.drop ((bodyB b).length + 7)).length + 8 ≤ b.length := by rw [List.length_drop]; omega
        obtain ⟨m, hm⟩ : ∃ m, b.length = m + 1 := ⟨b.length - 1, by omega⟩
        have e1 := ih f (by omega) (b.drop ((bodyB b).length + 7)) (by omega)
        have e2 : scanN m (b.drop ((bodyB b).length + 7)) = scanN (b.drop ((bodyB b).length + 7)).length (b.drop ((bodyB b).length + 7)) := by
          by_cases hmf : m < f + 1
          · exact ih m (by omega) _ (by omega)
          · have : m = f := by omega
            rw [this]; exact e1
        rw [hm]
        simp only [scanN, hk, if_true]
        rw [e1, e2]
      · have hk' : okB b = false := by simpa using hk
        cases hm : b.length with
        | zero => simp [scanN, hk']
        | succ m => simp [scanN, hk']

theorem scanB_yes {b : List Int} (h : okB b = true) : scanB b = bodyB b :: scanB (b.drop ((bodyB b).length + 7)) := by
  have hl := bodyB_len h
  obtain ⟨m, hm⟩ : ∃ m, b.length = m + 1 := ⟨b.length - 1, by omega⟩
  unfold scanB
  rw [hm]
  simp only [scanN, h, if_true]
  rw [scanN_more m _ (by rw [List.length_drop]; omega)]

theorem scanB_no {b : List Int} (h : okB b = false) : scanB b = [] := by
  unfold scanB
  cases b.length <;> simp [scanN, h]

theorem scanB_len : ∀ (f : Nat) (b : List Int), b.length ≤ f → (scanB b).length * 8 ≤ b.length := by
  intro f
  induction f with
  | zero =>
    intro b hb
    rw [scanB_no (okB_nil (by omega))]
    simp
  | succ f ih =>
    intro b hb
    by_cases hk : okB b = true
    · have hl := bodyB_len hk
      have := ih (b.drop ((bodyB b).length + 7)) (by rw [List.length_drop]; omega)
      rw [List.length_drop] at this
      rw [scanB_yes hk, List.length_cons]
      omega
    · rw [scanB_no (by simpa using hk)]; simp

theorem scanB_all : ∀ (f : Nat) (b : List Int), b.length ≤ f → isBytes b → ∀ x ∈ scanB b, isBytes x ∧ 1 ≤ x.length ∧ x.length ≤ 56 := by
  intro f
  induction f with
  | zero =>
    intro b hb _ x hx
    rw [scanB_no (okB_nil (by omega))] at hx
    cases hx
  | succ f ih =>
    intro b hb hbb x hx
    by_cases hk : okB b = true
    · have hl := bodyB_len hk
      rw [scanB_yes hk, List.mem_cons] at hx
      rcases hx with rfl | hx
      · exact ⟨bodyB_bytes hbb, hl.2.1, hl.2.2.1⟩
      · exact ih _ (by rw [List.length_drop]; omega) (isBytes_drop hbb _) x hx
    · rw [scanB_no (by simpa using hk)] at hx
      cases hx

theorem getD_app_left (l m : List Int) (i : Nat) (h : i < l.length) : (l ++ m).getD i 0 = l.getD i 0 := by
  simp only [List.getD, List.getElem?_append_left h]

theorem getD_app_right (l m : List Int) (i : Nat) (h : l.length ≤ i) : (l ++ m).getD i 0 = m.getD (i - l.length) 0 := by
  simp only [List.getD, List.getElem?_append_right h]

/-- A frame is found, whatever stands behind. -/
theorem ok_frame (b more : List Int) (hb : isBytes b) (h1 : 1 ≤ b.length) (h2 : b.length ≤ 56) : okB (frameB b ++ more) = true ∧ bodyB (frameB b ++ more) = b := by
  have hc := crcV_bd b hb
  have hl := frameB_len b
  have e1 : (frameB b ++ more).getD 1 0 = (b.length : Int) := rfl
  have e0 : (frameB b ++ more).getD 0 0 = 90 := rfl
  have hd : (frameB b ++ more).drop 2 = b ++ (four (crcV b) ++ ([165] ++ more)) := by simp [frameB]
  have hbody : bodyB (frameB b ++ more) = b := by
    unfold bodyB
    rw [hd, e1, Int.toNat_natCast, List.take_left]
  refine ⟨?_, hbody⟩
  have hb' : ((frameB b ++ more).drop 2).take b.length = b := by rw [hd, List.take_left]
  have h4 : ((frameB b ++ more).drop (b.length + 2)).take 4 = four (crcV b) := by
    rw [show b.length + 2 = 2 + b.length by omega, ← List.drop_drop, hd, List.drop_left]
    rfl
  have h165 : (frameB b ++ more).getD (b.length + 6) 0 = 165 := by
    have : (frameB b ++ more) = (90 :: (b.length : Int) :: (b ++ four (crcV b))) ++ ([165] ++ more) := by simp [frameB]
    rw [this, getD_app_right _ _ _ (by simp [four])]
    simp [four]
  unfold okB
  rw [e1, Int.toNat_natCast, hb', h4, num_four _ hc.1 hc.2, h165, e0]
  simp only [List.length_append, hl]
  simp
  omega

theorem scan_frame (b more : List Int) (hb : isBytes b) (h1 : 1 ≤ b.length) (h2 : b.length ≤ 56) : scanB (frameB b ++ more) = b :: scanB more := by
  obtain ⟨e1, e2⟩ := ok_frame b more hb h1 h2
  rw [scanB_yes e1, e2, ← frameB_len b, List.drop_left]

/-- A strand in numbers: the place, the records and where they stand. -/
structure Sd where
  pos : Nat
  used : Nat
  recs : List (Nat × List Int)

/-- A strand, when so many sectors have been gone through. -/
def openK (now : List Int) : Nat → Sd
  | 0 => ⟨0, 0, []⟩
  | k + 1 => ⟨if allz (sec now k) then (openK now k).pos else k + 1, 0, (openK now k).recs ++ (scanB (sec now k)).map fun b => (k, b)⟩
def openT (s : St) : Sd := openK s.now s.n

def Sd.leave (t : Sd) : Sd := ⟨t.pos + 1, 0, t.recs⟩
def withB (sc : List Int) (used : Nat) (f : List Int) : List Int := sc.take used ++ f ++ zeros (64 - used - f.length)

/-- The place that an Append goes to. -/
def Sd.fit (t : Sd) (b : List Int) : Sd := if 64 < t.used + (b.length + 7) then t.leave else t
def Sd.added (t : Sd) (b : List Int) : Sd := ⟨t.pos, t.used + (b.length + 7), t.recs ++ [(t.pos, b)]⟩
/-- What a frame is refused for. -/
def frameE (b : List Int) : Int := if b.length = 0 then 1 else if 56 < b.length then 3 else 0
def appE (s : St) (t : Sd) (b : List Int) : Int := if frameE b ≠ 0 then frameE b else if s.n ≤ (t.fit b).pos then 6 else errC s.out
def appS (s : St) (t : Sd) (b : List Int) : St := if frameE b ≠ 0 then s else if s.n ≤ (t.fit b).pos then s else s.write (t.fit b).pos (withB (sec s.now (t.fit b).pos) (t.fit b).used (frameB b))
def appT (s : St) (t : Sd) (b : List Int) : Sd := if frameE b ≠ 0 then t else if s.n ≤ (t.fit b).pos then t.fit b else if errC s.out = 0 then (t.fit b).added b else (t.fit b).leave
def synT (s : St) (t : Sd) : Sd := if errC s.out ≠ 0 ∧ 0 < t.used then t.leave else t

/-- What holds of a strand on a disk of n sectors. -/
structure Sd.Ok (t : Sd) (n : Nat) : Prop where
  pn : t.pos ≤ n
  us : t.used ≤ 64
  full : t.pos = n → t.used = 0
  rc : ∀ x ∈ t.recs, x.1 < n ∧ isBytes x.2 ∧ 1 ≤ x.2.length ∧ x.2.length ≤ 56

theorem err_cases (c : Int) : errC c = 0 ∨ errC c = 8 := by unfold errC; split <;> simp

theorem openK_ok (now : List Int) (n : Nat) (hl : now.length = n * 64) (hb : isBytes now) : ∀ k, k ≤ n → (openK now k).pos ≤ k ∧ (openK now k).used = 0 ∧ (∀ x ∈ (openK now k).recs, x.1 < k ∧ isBytes x.2 ∧ 1 ≤ x.2.length ∧ x.2.length ≤ 56) ∧ (openK now k).recs.length ≤ k * 8 := by
  intro k
  induction k with
  | zero => intro _; exact ⟨Nat.le_refl _, rfl, (fun x hx => by cases hx), Nat.le_refl _⟩
  | succ k ih =>
    intro hk
    obtain ⟨h1, h2, h3, h4⟩ := ih (by omega)
    have hs := sec_len hl (show k < n by omega)
    refine ⟨?_, rfl, ?_, ?_⟩
    · simp only [openK]; split <;> omega
    · intro x hx
      simp only [openK, List.mem_append, List.mem_map] at hx
      rcases hx with hx | ⟨b, hx, rfl⟩
      · have := h3 x hx; exact ⟨by omega, this.2⟩
      · exact ⟨by simp, scanB_all 64 _ (by omega) (sec_bytes hb k) b hx⟩
    · have := scanB_len 64 (sec now k) (by omega)
      simp only [openK, List.length_append, List.length_map]
      omega

theorem openT_ok {s : St} (h : s.Ok) : (openT s).Ok s.n ∧ (openT s).recs.length ≤ s.n * 8 ∧ (openT s).used = 0 := by
  obtain ⟨h1, h2, h3, h4⟩ := openK_ok s.now s.n h.nl h.nb s.n (Nat.le_refl _)
  exact ⟨⟨h1, by unfold openT; omega, fun _ => h2, h3⟩, h4, h2⟩

theorem Sd.Ok.fit {t : Sd} {n : Nat} (h : t.Ok n) (b : List Int) (hb : frameE b = 0) : (t.fit b).Ok n ∧ (t.fit b).used + (b.length + 7) ≤ 64 ∧ (t.fit b).recs = t.recs := by
  have hl : 1 ≤ b.length ∧ b.length ≤ 56 := by unfold frameE at hb; split at hb; · cases hb
                                               · split at hb; · cases hb
                                                 · omega
  unfold Sd.fit
  split
  · have hp : t.pos ≠ n := fun e => by have := h.full e; omega
    exact ⟨⟨by have := h.pn; simp [Sd.leave]; omega, by simp [Sd.leave], fun _ => rfl, h.rc⟩, by simp [Sd.leave]; omega, rfl⟩
  · exact ⟨h, by omega, rfl⟩

theorem Sd.Ok.leave {t : Sd} {n : Nat} (h : t.Ok n) (hp : t.pos < n) : t.leave.Ok n := ⟨by simp [Sd.leave]; omega, by simp [Sd.leave], fun _ => rfl, h.rc⟩

theorem appT_ok {s : St} {t : Sd} (h : t.Ok s.n) (b : List Int) (hb : isBytes b) : (appT s t b).Ok s.n ∧ (appT s t b).recs.length ≤ t.recs.length + 1 := by
  unfold appT
  split
  · exact ⟨h, by omega⟩
  · rename_i hE
    have hE' : frameE b = 0 := by simpa using hE
    obtain ⟨f1, f2, f3⟩ := h.fit b hE'
    have hl : 1 ≤ b.length ∧ b.length ≤ 56 := by unfold frameE at hE'; split at hE'; · cases hE'
                                                 · split at hE'; · cases hE'
                                                   · omega
    split
    · exact ⟨f1, by rw [f3]; omega⟩
    · rename_i hn
      split
      · refine ⟨⟨by simp [Sd.added]; omega, by simp [Sd.added]; omega, fun e => by simp [Sd.added] at e; omega, ?_⟩, by simp [Sd.added, f3]⟩
        intro x hx
        simp only [Sd.added, List.mem_append, List.mem_singleton] at hx
        rcases hx with hx | rfl
        · exact f1.rc x hx
        · exact ⟨by simp; omega, hb, hl⟩
      · exact ⟨f1.leave (by omega), by simp [Sd.leave, f3]⟩

theorem synT_ok {s : St} {t : Sd} (h : t.Ok s.n) : (synT s t).Ok s.n ∧ (synT s t).recs = t.recs := by
  unfold synT
  split
  · rename_i hu
    have hp : t.pos ≠ s.n := fun e => by have := h.full e; omega
    exact ⟨h.leave (by have := h.pn; omega), rfl⟩
  · exact ⟨h, rfl⟩

theorem withB_len (sc : List Int) (used : Nat) (f : List Int) (h : sc.length = 64) (hu : used + f.length ≤ 64) : (withB sc used f).length = 64 := by
  simp [withB, zeros]; omega

theorem withB_bytes (sc : List Int) (used : Nat) (f : List Int) (h : isBytes sc) (hf : isBytes f) : isBytes (withB sc used f) :=
  isBytes_append (isBytes_append (isBytes_take h _) hf) (isBytes_zeros _)

end Go.Proofs.YtafkkehcacdodaaGreat

namespace Go.Proofs.YtafkkehcacdodaaGreat
open Go.RowKit

set_option maxHeartbeats 400000 in
theorem test_any (w : World) (c : Int) : Calls Tryz.prog 100 #[.int .u8 c] w fun e w' => e = .returned (.bool (c != 0)) ∧ w' = w := by
  go_enter Tryz.func100, Tryz.ntmps100
  go_wp2
  go_ret
  exact ⟨rfl, rfl⟩

theorem allz_take {l : List Int} {k : Nat} (h : k < l.length) (h1 : allz (l.take k) = true) : allz (l.take (k + 1)) = (l.getD k 0 == 0) := by
  rw [take_snoc l k h, allz_snoc, h1, Bool.true_and]

theorem allz_no {l : List Int} {k : Nat} (h : k < l.length) (h1 : l.getD k 0 ≠ 0) : allz l = false := by
  unfold allz
  rw [List.all_eq_false]
  refine ⟨l[k], List.getElem_mem h, ?_⟩
  have : l.getD k 0 = l[k] := by simp [List.getD, List.getElem?_eq_getElem h]
  rw [this] at h1
  simpa using h1

set_option maxHeartbeats 1000000 in
theorem indexf_any (w : World) (v : Value) (l : List Int) (h : Bts w v l) :
    Calls Tryz.prog 118 #[v, .func (.func 100) #[] #[]] w fun e w' => ∃ i : Int, e = .returned (.int .i64 i) ∧ decide (0 ≤ i) = !allz l ∧ w' = w := by
  obtain ⟨a, cap, b, off, rfl, hl, hm, hbb, ha, hs⟩ := h
  unfold maxLen at hm
  go_enter Tryz.func118, Tryz.ntmps118
  go_wp2
  go_loop [8] (fun i => ∃ k : Nat, k ≤ l.length ∧ i = .int .i64 k ∧ allz (l.take k) = true) (fun i => l.length - (intOf i).toNat)
  case atStart => exact ⟨0, Nat.zero_le _, rfl, rfl⟩
  case round =>
    obtain ⟨k, hk, rfl, hz⟩ := hrel
    by_cases hlt : k < l.length
    · have hltI : (k : Int) < (l.length : Int) := by omega
      rcases ha with rfl | hnil
      case inr => rw [hnil] at hlt; simp at hlt
      have hc := hs k hlt
      have HZ := allz_take hlt hz
      have HNo := allz_no hlt
      by_cases h0 : l.getD k 0 = 0
      · have HT : Hid (allz (l.take (k + 1)) = true) := by show _ = _; rw [HZ, h0]; rfl
        rw [h0] at hc
        clear HZ HNo hz h0
        go_wp2_with (go_at_call 100; refine (test_any _ _).mono ?_; rintro e w' ⟨rfl, rfl⟩)
        go_round
        case rel => exact ⟨k + 1, by omega, by go_num, HT.out⟩
        case measure => simp [intOf]; omega
      · have HT : Hid (allz l = false) := HNo h0
        have h0' : (l.getD k 0 != 0) = true := by simpa using h0
        clear HZ HNo hz h0
        generalize l.getD k 0 = c at *
        go_wp2_with (go_at_call 100; refine (test_any _ _).mono ?_; rintro e w' ⟨rfl, rfl⟩)
        go_ret
        exact ⟨k, rfl, by rw [HT.out]; simp, rfl⟩
    · have hke : k = l.length := by omega
      subst hke
      rw [List.take_length] at hz
      have HT : Hid (allz l = true) := hz
      clear hz
      go_wp2
      go_ret
      exact ⟨-1, rfl, by rw [HT.out]; rfl, rfl⟩

set_option maxHeartbeats 400000 in
theorem containsf_any (w : World) (v : Value) (l : List Int) (h : Bts w v l) :
    Calls Tryz.prog 99 #[v, .func (.func 100) #[] #[]] w fun e w' => e = .returned (.bool (!allz l)) ∧ w' = w := by
  have HI := indexf_any w v l h
  go_enter Tryz.func99, Tryz.ntmps99
  go_wp2_with (go_at_call 118; refine HI.mono ?_; rintro e w' ⟨i, rfl, hi, rfl⟩; have HH : Hid (decide (0 ≤ i) = !allz l) := hi; clear hi)
  go_ret
  exact ⟨ret_bool HH.out, rfl⟩

set_option maxHeartbeats 400000 in
theorem blank_any (w : World) (v : Value) (l : List Int) (h : Bts w v l) :
    Calls Tryz.prog 70 #[v] w fun e w' => e = .returned (.bool (allz l)) ∧ w' = w := by
  have HI := containsf_any w v l h
  generalize hz : allz l = z at *
  go_enter Tryz.func70, Tryz.ntmps70
  go_wp2_with (go_at_call 99; refine HI.mono ?_; rintro e w' ⟨rfl, rfl⟩)
  go_ret
  exact ⟨ret_bool (by simp), rfl⟩

end Go.Proofs.YtafkkehcacdodaaGreat
