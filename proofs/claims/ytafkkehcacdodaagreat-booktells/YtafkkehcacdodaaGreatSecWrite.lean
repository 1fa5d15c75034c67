/- Write. -/
import Derived.Test.YtafkkehcacdodaaGreatSecStep
import Derived.Deep.RegionHeld3
import Derived.Deep.RegionLaw
set_option maxRecDepth 100000
namespace Go.Proofs.YtafkkehcacdodaaGreat
open Go.RowKit

/-- append onto a window, as one step of a region that draws its order. -/
theorem step_win_append {P : Program} {ops : Array Oper} {o : Oper} {a : Act} {w : World} {K : Act → World → Prop} {Q : Exit → Act → World → Prop} {E : Prop} (hgd : o.guard = none) (s x : Operand) (t : TypeId)
    (ho : o.op = .call { callee := .builtin .append, args := #[s, x], argTypes := #[t, t] })
    (e : TypeId) (i : TypeInfo) (z : Value) (size bytes : Nat) (ht : P.underlying t = some (.slice e)) (hi : P.info? e = some i) (hz : i.zero = some z)
    (hsize : i.size = size) (hby : i.bytes = bytes) (hzs : z.cells.size = size) (hsz : 0 < size)
    (v : Value) (n : Nat) (xs : List Value) (hs : a.eval s = v) (hwin : Win w size v n xs)
    (ad : Addr) (m c : Nat) (news : List Value) (hx : a.eval x = .slice (some ad) m c) (hl : news.length = m * size) (hnews : ∀ j u, news[j]? = some u → w.cell? (ad.add j) = some u) (h1 : ∀ u ∈ news, u.oneCell' = true)
    (h63 : n + m ≤ maxLen) (hbytes : (n + m) * bytes ≤ 140737488355328)
    (h : ∀ v' w', Win w' size v' (n + m) (xs ++ news) → w.grownBy w' v.ownBlock → (v'.ownBlock = v.ownBlock ∨ v'.ownBlock = some w.heap.size) → K (a.put o.dst v') w') :
    if Region.wanted o (yielded ops a.tmps) = true then Oper.wp P o a w K Q else E := by
  have hw : Region.wanted o (yielded ops a.tmps) = true := by simp [Region.wanted, hgd]
  rw [if_pos hw]
  obtain ⟨v', w', hr, h2, h3, h4⟩ := win_append (P := P) w t o.type e i z size bytes ht hi hz hsize hby hzs hsz v n xs hwin (some ad) m c news hl (.inl ⟨ad, rfl, hnews⟩) h1 h63 hbytes
  unfold Oper.wp execOp
  simp only [ho, resolve, invoke, builtin, Sem.run_bind, Sem.run_pure, Result.andThen_ok, List.map_toArray, List.map_cons, List.map_nil, hs, hx, hr]
  exact h v' w' h2 h3 h4

theorem win_shape {w : World} {size n : Nat} {v : Value} {xs : List Value} (h : Win w size v n xs) : ∃ a c, v = .slice a n c := by
  rcases h.2 with ⟨h1, h2⟩ | ⟨g, oo, cap, cs, h1, _⟩
  · exact ⟨none, 0, by rw [h1, h2]⟩
  · exact ⟨_, _, h1⟩

theorem wpl_copy_run {P : Program} {w : World} {ops : Array Oper} {rest : List Oper} {o : Oper} {a : Act} {Q : Exit → Act → World → Prop} (hgd : o.guard = none) (s x : Operand) (t : TypeId)
    (ho : o.op = .call { callee := .builtin .copy, args := #[s, x], argTypes := #[t, t] }) (v u : Value) (hs : a.eval s = v) (hx : a.eval x = u) {v' : Value} {w' : World}
    (hr : (Builtin.copy_ #[t, t] o.type #[v, u]).run P w = .ok v' w') (h : wpList P ops Q rest (a.put o.dst v') w') : wpList P ops Q (o :: rest) a w :=
  wpList_plain hgd fun _ hK => by
    unfold Oper.wp execOp
    simp only [ho, resolve, invoke, builtin, Sem.run_bind, Sem.run_pure, Result.andThen_ok, List.map_toArray, List.map_cons, List.map_nil, hs, hx, hr]
    exact hK _ _ h

theorem zero_w (w : World) : (zeroValue 105).run Tryz.prog w = .ok (.agg zW) w := by
  obtain ⟨i0, hi, hz0, hz1, hz2⟩ := info_parts infoW
  have : zeroW = .agg zW := by unfold zeroW zW; rfl
  simp [zeroValue, typeInfo, hi, hz0, this]

theorem zW_ne : ¬ zW = #[] := by
  intro e
  have := zW_size
  rw [e] at this
  simp at this

theorem fold_w (k : Nat) (cs : List Value) (hcs : cs.length = 64) : List.foldl (fun (cs : Array Value) (x : Value × Nat) => cs.setIfInBounds (1 + x.snd) x.fst) (zW.setIfInBounds 0 (.int .i64 k)) cs.zipIdx = wArr k cs.toArray := by
  obtain ⟨b1, b2⟩ := Great.foldl_set 1 cs 0 (zW.setIfInBounds 0 (.int .i64 k))
  apply Array.ext_getElem?
  intro j
  rw [b2 j]
  unfold wArr
  rw [Array.getElem?_append, Array.size_setIfInBounds, zW_size]
  by_cases hj : j < 1
  · have : j = 0 := by omega
    subst this
    simp [zW_size]
  · by_cases hj2 : j < 65
    · rw [if_pos (by omega)]
      simp [hj]
    · rw [if_neg (by omega)]
      rw [Array.getElem?_eq_none (by rw [Array.size_setIfInBounds, zW_size]; omega)]
      simp [hj, List.getElem?_eq_none (show cs.length ≤ j - 1 by omega)]

theorem fold_whole (W A : Array Value) (hW : W.size = 65) (hA : A.size = 65) : Array.foldl (fun (cs : Array Value) (x : Value × Nat) => cs.setIfInBounds x.snd x.fst) A W.zipIdx 0 65 = W := by
  obtain ⟨b1, b2⟩ := Great.foldl_set 0 W.toList 0 A
  have e : Array.foldl (fun (cs : Array Value) (x : Value × Nat) => cs.setIfInBounds x.snd x.fst) A W.zipIdx 0 65 = (W.toList.zipIdx 0).foldl (fun (cs : Array Value) (x : Value × Nat) => cs.setIfInBounds (0 + x.snd) x.fst) A := by
    have h65 : W.zipIdx.size = 65 := by simp [hW]
    conv => lhs; rw [← h65]
    rw [← Array.foldl_toList]
    simp
  rw [e]
  apply Array.ext_getElem?
  intro j
  rw [b2 j]
  by_cases hj : j < 65
  · rw [if_pos (by simp [hW, hA]; omega)]
    simp
  · rw [if_neg (by simp [hW, hA]; omega), Array.getElem?_eq_none (by omega), Array.getElem?_eq_none (by omega)]

set_option maxHeartbeats 1000000 in
theorem write_no (w : World) (tag : Nat → Nat) (base o : Nat) (s : St) (p : PL) (h : PD w tag base o s p) (k : Int) (v : Value) (l : List Int) (hv : Bts w v l) (hk : hasB s.n k = false ∨ l.length ≠ 64) :
    Calls Tryz.prog 110 #[.pointer (some ⟨p.D, 0, none⟩), .int .i64 k, v] w fun e w' => e = .returned (.int .i64 1) ∧ w' = w := by
  obtain ⟨a, c, rfl, hl, hm, _⟩ := bts_src hv
  unfold maxLen at hm
  by_cases hb : hasB s.n k = true
  · have hne : ((l.length : Int) != 64) = true := by
      rcases hk with hk | hk
      · rw [hb] at hk; cases hk
      · rw [bne_iff_ne]; omega
    clear hk
    go_enter Tryz.func110, Tryz.ntmps110
    go_wp2_with (first
      | (go_at_call 41; refine (made_ok _ tag base o s p h).mono ?_; rintro e w' ⟨rfl, rfl⟩)
      | (go_at_call 94; refine (has_ok _ tag base o s p h k).mono ?_; rintro e w' ⟨rfl, rfl⟩))
    go_ret
    exact ⟨rfl, rfl⟩
  · have hb' : hasB s.n k = false := by simpa using hb
    clear hk hb
    go_enter Tryz.func110, Tryz.ntmps110
    go_wp2_with (first
      | (go_at_call 41; refine (made_ok _ tag base o s p h).mono ?_; rintro e w' ⟨rfl, rfl⟩)
      | (go_at_call 94; refine (has_ok _ tag base o s p h k).mono ?_; rintro e w' ⟨rfl, rfl⟩))
    go_ret
    exact ⟨rfl, rfl⟩

/-- Behind a Write that is done. -/
theorem PD.written {w w2 w3 : World} {tag : Nat → Nat} {base o : Nat} {s : St} {p : PL} (h : PD w tag base o s p) (hbase : base ≤ w.heap.size) (k : Nat) (hk : k < s.n) (l : List Int) (hl : l.length = 64) (hlb : isBytes l) (v' : Value)
    (h2 : Below (w.setCells p.L (k * 64) (bytesV l)).heap.size (w.setCells p.L (k * 64) (bytesV l)) w2) (hgrow : w2.grownBy w3 p.uv.ownBlock) (hat : v'.ownBlock = p.uv.ownBlock ∨ v'.ownBlock = some w2.heap.size)
    (hwin : Win w3 65 v' (s.since.length + 1) (wcells s.since ++ wcell (k, l))) :
    ∃ p' tag', p'.D = p.D ∧ PD (w3.setCell ⟨p.D, 4, none⟩ v') tag' base o (s.wrote k l) p' ∧ Step tag tag' base o w (w3.setCell ⟨p.D, 4, none⟩ v') := by
  have hsz1 : (w.setCells p.L (k * 64) (bytesV l)).heap.size = w.heap.size := size_setCells _ _ _ _
  have hsz2 : w.heap.size ≤ w2.heap.size := by have := h2.size; omega
  have s1 : Step tag tag base o w (w.setCells p.L (k * 64) (bytesV l)) := (Step.refl tag base o w).sets h.tL.2 (by have := h.tL.1; omega) _ _
  have s2 : Step tag tag base o w w2 := s1.trans (step_below tag base o (by omega) h2)
  obtain ⟨s3, htv⟩ := step_grown (tag := tag) (base := base) hgrow hat h.tU (show (16 * o + 6) / 16 = o by omega) (by omega)
  have s4 : Step tag (retag tag v' (16 * o + 6)) base o w w3 := s2.trans s3
  have hT : ∀ {g : Nat}, g < w.heap.size → retag tag v' (16 * o + 6) g = tag g := fun {g} hg => s4.tags g hg
  refine ⟨{ p with uv := v' }, retag tag v' (16 * o + 6), rfl, ?_, s4.set h.tD.2 (by rw [hT h.bD.lt]; have := h.tD.1; omega) 4 _⟩
  have e2 : ∀ g, g < w.heap.size → tag g ≠ 16 * o + 6 → w3.heap[g]? = w2.heap[g]? := fun g hg hne => hgrow.block g (by omega) (fun e => hne (h.tU g e.symm).1)
  have e1 : ∀ g, g < w.heap.size → w2.heap[g]? = (w.setCells p.L (k * 64) (bytesV l)).heap[g]? := fun g hg => h2.block g (by omega)
  have e0 : ∀ g, g < w.heap.size → tag g ≠ 16 * o + 4 → (w.setCells p.L (k * 64) (bytesV l)).heap[g]? = w.heap[g]? := fun g hg hne => heap_setCells_other g p.L (fun e => hne (by rw [e]; exact h.tL.1)) _ _ _
  have e3 : ∀ g, g < w3.heap.size → retag tag v' (16 * o + 6) g ≠ 16 * o + 1 → (w3.setCell ⟨p.D, 4, none⟩ v').heap[g]? = w3.heap[g]? := fun g hg hne => heap_setCell_other _ _ g _ (fun e => hne (by
    have : g = p.D := e
    rw [this, hT h.bD.lt]; exact h.tD.1))
  have hsz3 : w.heap.size ≤ w3.heap.size := s4.below.size
  have all : ∀ {g T : Nat}, g < w.heap.size → tag g = T → T ≠ 16 * o + 1 → T ≠ 16 * o + 4 → T ≠ 16 * o + 6 → (w3.setCell ⟨p.D, 4, none⟩ v').heap[g]? = w.heap[g]? := fun {g T} hg ht n1 n4 n6 => by
    rw [e3 g (by omega) (by rw [hT hg, ht]; exact n1), e2 g hg (by rw [ht]; exact n6), e1 g hg, e0 g hg (by rw [ht]; exact n4)]
  have hbl : (bytesV l).length = 64 := by simp [hl]
  have hrow := h.rL.sets (k * 64) (bytesV l) (by rw [hbl]; omega)
  refine ⟨?_, h.bQ.same (all h.bQ.lt h.tQ.1 (by omega) (by omega) (by omega)), h.rC.same (all h.rC.lt h.tC.1 (by omega) (by omega) (by omega)), ?_, h.wW.same (fun g hg => all (h.wW.lt g hg) (h.tW g hg).1 (by omega) (by omega) (by omega)), ?_, ?_, ?_, ?_, ?_, ?_, htv, h.ok.wrote hk hl hlb⟩
  · have b3 : Blk w3 p.D _ := h.bD.same (by rw [e2 _ h.bD.lt (by rw [h.tD.1]; omega), e1 _ h.bD.lt, e0 _ h.bD.lt (by rw [h.tD.1]; omega)])
    have := b3.set 4 v'
    simpa [St.wrote] using this
  · have e : bytesV (s.wrote k l).now = splice (bytesV s.now) (k * 64) (bytesV l) := splice_map _ _ _ _
    show Row _ 64 p.L p.cL s.n _
    rw [e]
    refine hrow.same ?_
    rw [e3 p.L (by have := h.rL.lt; omega) (by rw [hT h.rL.lt, h.tL.1]; omega), e2 _ h.rL.lt (by rw [h.tL.1]; omega), e1 _ h.rL.lt]
  · have e : wcells (s.wrote k l).since = wcells s.since ++ wcell (k, l) := wcells_snoc _ _
    have e' : (s.wrote k l).since.length = s.since.length + 1 := by simp [St.wrote]
    rw [e, e']
    refine hwin.same (fun g hg => e3 g (hwin.lt g hg) ?_)
    rw [(htv g hg).1]; omega
  · exact ⟨by rw [hT h.bD.lt]; exact h.tD.1, h.tD.2⟩
  · exact ⟨by rw [hT h.bQ.lt]; exact h.tQ.1, h.tQ.2⟩
  · exact ⟨by rw [hT h.rC.lt]; exact h.tC.1, h.tC.2⟩
  · exact ⟨by rw [hT h.rL.lt]; exact h.tL.1, h.tL.2⟩
  · intro g hg
    exact ⟨by rw [hT (h.wW.lt g hg)]; exact (h.tW g hg).1, (h.tW g hg).2⟩

theorem size_drewN (w : World) (n : Nat) : (w.drewN n).heap.size = w.heap.size := rfl

theorem bts_other {w w' : World} {tag tag' : Nat → Nat} {base o : Nat} {v : Value} {l : List Int} (h : Bts w v l) (hs : Step tag tag' base o w w') (hv : ∀ g, v.ownBlock = some g → tag g / 16 ≠ o) : Bts w' v l := by
  obtain ⟨a, cap, b, off, rfl, hl, hm, hb, ha, hse⟩ := h
  refine ⟨a, cap, b, off, rfl, hl, hm, hb, ha, fun i hi => ?_⟩
  rcases ha with rfl | hnil
  · have hc := hse i hi
    have hlt : b < w.heap.size := World.block_lt_of_cell? w _ hc
    rw [World.cell?_of_block (w := w) (a := ⟨b, off + i, none⟩) (hs.kept b hlt (hv b rfl))]
    exact hc
  · rw [hnil] at hi; simp at hi

theorem splice_mid {α : Type} (cs vs : List α) (o : Nat) (h : o + vs.length ≤ cs.length) : ((splice cs o vs).drop o).take vs.length = vs := by
  apply List.ext_getElem?
  intro j
  rw [List.getElem?_take, List.getElem?_drop, splice_get _ _ _ _ h]
  by_cases hj : j < vs.length
  · rw [if_pos hj, if_pos (by omega)]; congr 1; omega
  · rw [if_neg hj, List.getElem?_eq_none (by omega)]

theorem write_facts {w : World} {tag : Nat → Nat} {base o : Nat} {s : St} {p : PL} (h : PD w tag base o s p) (k : Nat) (hk : k < s.n) (a : Option Addr) (c : Nat) (l : List Int) (hv : Bts w (.slice a 64 c) l) (hl : l.length = 64) (D : Nat) (hD : p.D = D) :
    ∃ (w2 : World) (cs : List Value), (Builtin.copy_ #[39, 39] 3 #[.slice (some ⟨p.L, k * 64, none⟩) 64 64, .slice a 64 c]).run Tryz.prog w = .ok (.int .i64 64) w2 ∧ Hid (w2 = w.setCells p.L (k * 64) (bytesV l)) ∧
      w2.cell? ⟨D, 3, none⟩ = some (.slice (some ⟨p.L, 0, none⟩) s.n p.cL) ∧ w2.cell? ⟨D, 4, none⟩ = some p.uv ∧ w2.frozen? ⟨D, 4, none⟩ = false ∧ w2.rangeAt p.L (k * 64) cs ∧ cs.length = 64 ∧ (∀ v ∈ cs, v.oneCell' = true) ∧ Hid (cs = bytesV l) ∧ D < w2.heap.size := by
  subst hD
  have hbl : (bytesV l).length = 64 := by simp [hl]
  have hle : k * 64 + (bytesV l).length ≤ s.n * 64 := by rw [hbl]; omega
  have hrow := h.rL.sets (k * 64) (bytesV l) hle
  have hbD : Blk (w.setCells p.L (k * 64) (bytesV l)) p.D _ := h.bD.same (heap_setCells_other p.D p.L (fun e => by have a := h.tD.1; have b := h.tL.1; rw [e] at a; omega) _ _ _)
  refine ⟨w.setCells p.L (k * 64) (bytesV l), bytesV l, ?_, rfl, hbD.cell 3, hbD.cell 4, hbD.frozen 4, ?_, hbl, ones_bytes l, rfl, hbD.lt⟩
  · obtain ⟨a', c', hva, _, _, hsrc⟩ := bts_src hv
    rw [hl] at hva
    simp only [Value.slice.injEq, true_and] at hva
    obtain ⟨rfl, rfl⟩ := hva
    rcases hsrc with ⟨ad, rfl, hcells⟩ | h0
    · have hth := h.rL.there (k * 64) (bytesV l).length (by rw [hbl]; omega)
      have := run_copy_cells (P := Tryz.prog) w 39 39 3 5 p.L (k * 64) 64 64 ad 64 c (bytesV l) Tryz.underlying39 size5 (by rw [hbl]; rfl) hcells (fun j hj => (hth j hj).1) (fun j hj => (hth j hj).2) (ones_bytes l)
      rw [this, hbl]; rfl
    · omega
  · have := hrow.range (k * 64) 64
    have e := splice_mid (bytesV s.now) (bytesV l) (k * 64) (by rw [hbl]; simp [h.ok.nl]; omega)
    rw [hbl] at e
    rwa [e] at this

theorem news_new (w : World) (W : Array Value) (t : TypeId) : ∀ j u, W.toList[j]? = some u → (w.alloc (.cells W t)).cell? ((⟨w.heap.size, 0, none⟩ : Addr).add j) = some u := by
  intro j u hu
  rw [add_at, Nat.zero_add, (blk_new w W t).cell]
  exact hu

theorem wcell_one (x : Nat × List Int) : ∀ v ∈ wcell x, v.oneCell' = true := by
  intro v hv
  simp only [wcell, List.mem_cons] at hv
  rcases hv with rfl | hv
  · rfl
  · exact ones_bytes _ v hv

set_option maxHeartbeats 4000000 in
theorem write_done (w : World) (tag : Nat → Nat) (base o : Nat) (s : St) (p : PL) (h : PD w tag base o s p) (hbase : base ≤ w.heap.size) (k : Nat) (hk : k < s.n) (v : Value) (l : List Int) (hv : Bts w v l) (hl : l.length = 64)
    (hvo : ∀ g, v.ownBlock = some g → tag g / 16 ≠ o) (hops : s.ops ≤ 1000000) (hout : s.outs.length ≤ 1000000) (hsin : s.since.length ≤ 1000000) (hd : doneB s.out = true) :
    Calls Tryz.prog 110 #[.pointer (some ⟨p.D, 0, none⟩), .int .i64 k, v] w fun e w' => e = .returned (.int .i64 (errC s.out)) ∧ ∃ p' tag', p'.D = p.D ∧ PD w' tag' base o (s.take.wrote k l) p' ∧ Step tag tag' base o w w' := by
  obtain ⟨i0, hi0, hz0, hz1, hz2⟩ := info_parts infoW
  have hb : hasB s.n (k : Int) = true := by unfold hasB; simp; omega
  have hlb : isBytes l := by obtain ⟨_, _, _, _, _, _, _, hb, _⟩ := hv; exact hb
  have HA := attempt_ok w tag base o s p h hops hout
  have HM := made_ok w tag base o s p h
  have HH := has_ok w tag base o s p h k
  have hn2 := h.ok.n2
  have hkI : (k : Int) < (s.n : Int) := by omega
  have hlI : (l.length : Int) = 64 := by omega
  obtain ⟨a, c, hvs, hlc, hmc, _⟩ := bts_src hv
  have HO : Hid (∀ g, v.ownBlock = some g → tag g / 16 ≠ o) := hvo
  have HLB : Hid (isBytes l) := hlb
  have HLL : Hid (l.length = 64) := hl
  rw [hl] at hvs hlc
  unfold maxLen at hmc
  subst hvs
  have HV : Hid (∀ w', Step tag tag base o w w' → Bts w' (.slice a 64 c) l) := fun w' hs => bts_other hv hs hvo
  have HB : Hid (base ≤ w.heap.size) := hbase
  clear h hv hvo hlb hlI hl HO hbase
  go_enter Tryz.func110, Tryz.ntmps110
  go_wp2_with (first
    | (go_at_call 41; refine HM.mono ?_; rintro e w' ⟨rfl, hx⟩; have HX1 : Hid (w' = w) := hx; clear hx; rw [HX1.out])
    | (go_at_call 94; refine HH.mono ?_; rintro e w' ⟨rfl, hx⟩; have HX2 : Hid (w' = w) := hx; clear hx; rw [HX2.out])
    | (go_at_call 128; refine HA.mono ?_; rintro e w1 ⟨rfl, p1, hD, hP, hS⟩; have h3 := hP.d3; rw [hD] at h3; have hn1 : s.take.n = s.n := rfl; rw [hn1] at h3; obtain ⟨w2, cs, hcp, HW2, c3, c4, f4, hr, hcs, h1, HCS, hlt⟩ := write_facts hP k hk a c l (HV.out w1 hS) HLL.out p.D hD; rw [hn1] at c3; have HP : Hid (PD w1 tag base o s.take p1) := hP; have HS : Hid (Step tag tag base o w w1) := hS; have HD : Hid (p1.D = p.D) := hD; clear hP hS hD HM HH HA hn1))
  have hu := Tryz.underlying103
  have hi : (Tryz.prog.info? 103).map (·.size) = some cs.length := by rw [hcs]; exact sizeC
  have hW : (wArr k cs.toArray).size = 65 := wArr_size k _ (by simpa using hcs)
  have HWU : Hid (Win w2 65 p1.uv s.since.length (wcells s.since)) := by
    refine HP.out.wU.same (fun g hg => ?_)
    rw [HW2.out]
    exact heap_setCells_other g p1.L (fun e => by have a := (HP.out.tU g hg).1; have b := HP.out.tL.1; rw [e] at a; omega) _ _ _
  have HWL : Hid ((wArr k cs.toArray).toList = wcell (k, l)) := by
    show _ = _
    rw [HCS.out]; exact wArr_list k l
  obtain ⟨ua, uc, hU⟩ := win_shape HWU.out
  have HU : Hid (p1.uv = .slice ua s.since.length uc) := hU
  rw [hU] at c4
  clear hU h3 hcp
  have hkeep : ∀ X, Below w2.heap.size w2 X → (X.cell? ⟨p.D, 3, none⟩ = some (.slice (some ⟨p1.L, 0, none⟩) s.n p1.cL) ∧ X.cell? ⟨p.D, 4, none⟩ = some (.slice ua s.since.length uc) ∧ X.rangeAt p1.L (k * 64) cs) := fun X hX =>
    ⟨cell_later hX c3, cell_later hX c4, fun j v hv => cell_later hX (hr j v hv)⟩
  have KEEP : Hid (∀ X, Below w2.heap.size w2 X → (X.cell? ⟨p.D, 3, none⟩ = some (.slice (some ⟨p1.L, 0, none⟩) s.n p1.cL) ∧ X.cell? ⟨p.D, 4, none⟩ = some (.slice ua s.since.length uc) ∧ X.rangeAt p1.L (k * 64) cs)) := hkeep
  clear hkeep
  have K3 : Hid (∀ X w3, Below w2.heap.size w2 X → X.grownBy w3 (Value.slice ua s.since.length uc).ownBlock → (w3.cell? ⟨p.D, 3, none⟩ = some (.slice (some ⟨p1.L, 0, none⟩) s.n p1.cL) ∧ w3.cell? ⟨p.D, 4, none⟩ = some (.slice ua s.since.length uc) ∧ w3.rangeAt p1.L (k * 64) cs) ∧ w3.frozen? ⟨p.D, 4, none⟩ = false) := by
    intro X w3 hX hg
    have hsz := hX.size
    have eD : w3.heap[p.D]? = X.heap[p.D]? := hg.block p.D (by omega) (fun e => by
      have a := HP.out.tD.1; have b := (HP.out.tU p.D (by rw [HU.out]; exact e.symm)).1; rw [HD.out] at a; omega)
    have hLlt : p1.L < w2.heap.size := by have := HP.out.rL.lt; rw [HW2.out, size_setCells]; exact this
    have eL : w3.heap[p1.L]? = X.heap[p1.L]? := hg.block p1.L (by omega) (fun e => by
      have a := HP.out.tL.1; have b := (HP.out.tU p1.L (by rw [HU.out]; exact e.symm)).1; omega)
    obtain ⟨k3, k4, kr⟩ := KEEP.out X hX
    refine ⟨⟨?_, ?_, ?_⟩, ?_⟩
    · rw [World.cell?_of_block (w := X) (a := ⟨p.D, 3, none⟩) eD]; exact k3
    · rw [World.cell?_of_block (w := X) (a := ⟨p.D, 4, none⟩) eD]; exact k4
    · intro j v hv
      rw [World.cell?_of_block (w := X) (a := ⟨p1.L, _, none⟩) eL]; exact kr j v hv
    · rw [World.frozen?_of_block (w := X) (a := ⟨p.D, 4, none⟩) eD, hX.frozen (p := ⟨p.D, 4, none⟩) hlt]; exact f4
  have z1 := zero_w
  have z2 := zW_ne
  have z3 := zW_size
  have z4 := fold_w k cs hcs
  have z5 : ∀ A : Array Value, A.size = 65 → Array.foldl (fun (cs : Array Value) (x : Value × Nat) => cs.setIfInBounds x.snd x.fst) A (wArr k cs.toArray).zipIdx 0 65 = wArr k cs.toArray := fun A hA => fold_whole _ A hW hA
  have K4 : Hid (∀ w3 : World, (w3.cell? ⟨p.D, 3, none⟩ = some (.slice (some ⟨p1.L, 0, none⟩) s.n p1.cL) ∧ w3.rangeAt p1.L (k * 64) cs) → ∀ v, ((w3.setCell ⟨p.D, 4, none⟩ v).cell? ⟨p.D, 3, none⟩ = some (.slice (some ⟨p1.L, 0, none⟩) s.n p1.cL) ∧ (w3.setCell ⟨p.D, 4, none⟩ v).rangeAt p1.L (k * 64) cs)) := by
    intro w3 h3 v
    have hne : p.D ≠ p1.L := fun e => by have a := HP.out.tD.1; have b := HP.out.tL.1; rw [HD.out, e] at a; omega
    refine ⟨?_, fun j u hu => ?_⟩
    · rw [World.cell?_setCell_other _ _ _ _ (by intro e; have := congrArg Addr.off e; simp at this)]; exact h3.1
    · rw [World.cell?_setCell_other _ _ _ _ (by intro e; exact hne (congrArg Addr.block e))]; exact h3.2 j u hu
  have hdD : p.D < w2.drew.heap.size := hlt
  have d3 : w2.drew.cell? ⟨p.D, 3, none⟩ = some (.slice (some ⟨p1.L, 0, none⟩) s.n p1.cL) := c3
  have d4 : w2.drew.cell? ⟨p.D, 4, none⟩ = some (.slice ua s.since.length uc) := c4
  have hld : (loadCellsFrom ⟨p1.L, k * 64, none⟩ 0 64 #[]).run Tryz.prog w2.drew = .ok cs.toArray w2.drew := by
    have := run_loadCells_list (P := Tryz.prog) w2.drew ⟨p1.L, k * 64, none⟩ cs (fun j v hv => by rw [add_at]; exact hr j v hv)
    rw [hcs] at this
    simpa [loadCells] using this
  refine wp_region_noPanic ?_
  refine wp_region_held_drew (S := fun w' => w'.cell? ⟨p.D, 3, none⟩ = some (.slice (some ⟨p1.L, 0, none⟩) s.n p1.cL) ∧ w'.rangeAt p1.L (k * 64) cs) (by kernel_rfl) ⟨d3, hr⟩ (fun hHeld => ?_)
  refine wpAnyH_take (i := 0) (oi := { dst := some 36, op := Op.move (Operand.tmp 0), type := 25, pos := "sector.go:104", after := #[], guard := none }) (v := .pointer (some ⟨p.D, 0, none⟩)) rfl (by kernel_rfl) (by kernel_rfl) (by kernel_rfl) (fun _ _ _ h => h) (Or.inl ⟨by rfl, by intro wS hSw; go_simp⟩) hHeld ?_
  simp only [Act.put, List.setIfInBounds_toArray, List.set_cons_zero, List.set_cons_succ]
  refine wpAnyH_take (i := 1) (oi := { dst := some 37, op := Op.move (Operand.tmp 0), type := 25, pos := "sector.go:104", after := #[], guard := none }) (v := .pointer (some ⟨p.D, 0, none⟩)) rfl (by kernel_rfl) (by kernel_rfl) (by kernel_rfl) (fun _ _ _ h => h) (Or.inl ⟨by rfl, by intro wS hSw; go_simp⟩) hHeld ?_
  simp only [Act.put, List.setIfInBounds_toArray, List.set_cons_zero, List.set_cons_succ]
  refine wpAnyH_take (i := 2) (oi := { dst := some 38, op := Op.nilCheck (Operand.tmp 37), type := 0, pos := "sector.go:104", after := #[{ on := 1, ground := Ground.data }], guard := none }) (v := .pointer (some ⟨p.D, 0, none⟩)) rfl (by kernel_rfl) (by kernel_rfl) (by kernel_rfl) (fun _ _ _ h => h) (Or.inl ⟨by rfl, by intro wS hSw; go_simp⟩) hHeld ?_
  simp only [Act.put, List.setIfInBounds_toArray, List.set_cons_zero, List.set_cons_succ]
  refine wpAnyH_take (i := 3) (oi := { dst := some 39, op := Op.fieldAddr 100 (Operand.tmp 38) 4, type := 0, pos := "sector.go:104", after := #[{ on := 2, ground := Ground.data }], guard := none }) (v := .pointer (some ⟨p.D, 4, none⟩)) rfl (by kernel_rfl) (by kernel_rfl) (by kernel_rfl) (fun _ _ _ h => h) (Or.inl ⟨by rfl, by intro wS hSw; go_simp⟩) hHeld ?_
  simp only [Act.put, List.setIfInBounds_toArray, List.set_cons_zero, List.set_cons_succ]
  refine wpAnyH_take (i := 5) (oi := { dst := some 41, op := Op.move (Operand.tmp 1), type := 3, pos := "sector.go:104", after := #[], guard := none }) (v := .int .i64 k) rfl (by kernel_rfl) (by kernel_rfl) (by kernel_rfl) (fun _ _ _ h => h) (Or.inl ⟨by rfl, by intro wS hSw; go_simp⟩) hHeld ?_
  simp only [Act.put, List.setIfInBounds_toArray, List.set_cons_zero, List.set_cons_succ]
  refine wpAnyH_take (i := 6) (oi := { dst := some 42, op := Op.move (Operand.tmp 0), type := 25, pos := "sector.go:104", after := #[], guard := none }) (v := .pointer (some ⟨p.D, 0, none⟩)) rfl (by kernel_rfl) (by kernel_rfl) (by kernel_rfl) (fun _ _ _ h => h) (Or.inl ⟨by rfl, by intro wS hSw; go_simp⟩) hHeld ?_
  simp only [Act.put, List.setIfInBounds_toArray, List.set_cons_zero, List.set_cons_succ]
  refine wpAnyH_take (i := 7) (oi := { dst := some 43, op := Op.nilCheck (Operand.tmp 42), type := 0, pos := "sector.go:104", after := #[{ on := 6, ground := Ground.data }], guard := none }) (v := .pointer (some ⟨p.D, 0, none⟩)) rfl (by kernel_rfl) (by kernel_rfl) (by kernel_rfl) (fun _ _ _ h => h) (Or.inl ⟨by rfl, by intro wS hSw; go_simp⟩) hHeld ?_
  simp only [Act.put, List.setIfInBounds_toArray, List.set_cons_zero, List.set_cons_succ]
  refine wpAnyH_take (i := 8) (oi := { dst := some 44, op := Op.fieldAddr 100 (Operand.tmp 43) 3, type := 0, pos := "sector.go:104", after := #[{ on := 7, ground := Ground.data }], guard := none }) (v := .pointer (some ⟨p.D, 3, none⟩)) rfl (by kernel_rfl) (by kernel_rfl) (by kernel_rfl) (fun _ _ _ h => h) (Or.inl ⟨by rfl, by intro wS hSw; go_simp⟩) hHeld ?_
  simp only [Act.put, List.setIfInBounds_toArray, List.set_cons_zero, List.set_cons_succ]
  refine wpAnyH_take (i := 9) (oi := { dst := some 45, op := Op.load 68 (Operand.tmp 44), type := 68, pos := "sector.go:104", after := #[{ on := 8, ground := Ground.data }], guard := none }) (v := .slice (some ⟨p1.L, 0, none⟩) s.n p1.cL) rfl (by kernel_rfl) (by kernel_rfl) (by kernel_rfl) (fun _ _ _ h => h) (Or.inl ⟨by rfl, by intro wS hSw; obtain ⟨q3, qr⟩ := hSw; go_simp⟩) hHeld ?_
  simp only [Act.put, List.setIfInBounds_toArray, List.set_cons_zero, List.set_cons_succ]
  refine wpAnyH_take (i := 10) (oi := { dst := some 46, op := Op.move (Operand.tmp 1), type := 3, pos := "sector.go:104", after := #[], guard := none }) (v := .int .i64 k) rfl (by kernel_rfl) (by kernel_rfl) (by kernel_rfl) (fun _ _ _ h => h) (Or.inl ⟨by rfl, by intro wS hSw; go_simp⟩) hHeld ?_
  simp only [Act.put, List.setIfInBounds_toArray, List.set_cons_zero, List.set_cons_succ]
  refine wpAnyH_take (i := 11) (oi := { dst := some 47, op := Op.indexAddr 68 (Operand.tmp 45) (Operand.tmp 46), type := 0, pos := "sector.go:104", after := #[{ on := 9, ground := Ground.data }, { on := 10, ground := Ground.data }], guard := none }) (v := .pointer (some ⟨p1.L, k * 64, none⟩)) rfl (by kernel_rfl) (by kernel_rfl) (by kernel_rfl) (fun _ _ _ h => h) (Or.inl ⟨by rfl, by intro wS hSw; go_simp⟩) hHeld ?_
  simp only [Act.put, List.setIfInBounds_toArray, List.set_cons_zero, List.set_cons_succ]
  refine wpAnyH_take (i := 12) (oi := { dst := some 48, op := Op.load 103 (Operand.tmp 47), type := 103, pos := "sector.go:104", after := #[{ on := 11, ground := Ground.data }], guard := none }) rfl (by kernel_rfl) (by kernel_rfl) (by kernel_rfl) (fun _ _ _ h => h) (yieldsIf_load_mid (by rfl) _ _ rfl p1.L (k * 64) rfl cs _ (fun _ hSw => hSw.2) hu rfl hi) hHeld ?_
  simp only [Act.put, List.setIfInBounds_toArray, List.set_cons_zero, List.set_cons_succ]
  refine wpAnyH_take (i := 13) (oi := { dst := some 49, op := Op.build 105 #[(0, Operand.tmp 41), (1, Operand.tmp 48)], type := 105, pos := "sector.go:104", after := #[{ on := 5, ground := Ground.data }, { on := 12, ground := Ground.data }], guard := none }) (v := .agg (wArr k cs.toArray)) rfl (by kernel_rfl) (by kernel_rfl) (by kernel_rfl) (fun _ _ _ h => h) (Or.inl ⟨by rfl, by intro wS hSw; go_simp⟩) hHeld ?_
  simp only [Act.put, List.setIfInBounds_toArray, List.set_cons_zero, List.set_cons_succ]
  refine wpAnyH_ready (rs := [4, 14]) (by kernel_rfl) (by simp) (AllReadyH.cons (o := { dst := some 40, op := Op.load 98 (Operand.tmp 39), type := 98, pos := "sector.go:104", after := #[{ on := 3, ground := Ground.data }], guard := none }) rfl (fun K hK => ?wayA) (AllReadyH.cons (o := { dst := some 50, op := Op.buildSlice 98 1 #[(0, Operand.tmp 49)], type := 98, pos := "sector.go:104", after := #[{ on := 13, ground := Ground.data }], guard := none }) rfl (fun K hK => ?wayB) AllReadyH.nil))
  case' wayA =>
    go_simp
    refine hK.out _ _ ⟨d3, hr⟩ (fun hHeld => ?_)
    clear hK K
    try simp only [Act.put, List.setIfInBounds_toArray, List.set_cons_zero, List.set_cons_succ]
    refine wpAnyH_ready (rs := [14]) (by kernel_rfl) (by simp) (AllReadyH.cons (o := { dst := some 50, op := Op.buildSlice 98 1 #[(0, Operand.tmp 49)], type := 98, pos := "sector.go:104", after := #[{ on := 13, ground := Ground.data }], guard := none }) rfl (fun K hK => ?_) AllReadyH.nil)
    go_simp
    refine hK.out _ _ ⟨(KEEP.out _ (below_alloc w2 _).drew).1, (KEEP.out _ (below_alloc w2 _).drew).2.2⟩ (fun hHeld => ?_)
    clear hK K
    try simp only [Act.put, List.setIfInBounds_toArray, List.set_cons_zero, List.set_cons_succ]
  case' wayB =>
    go_simp
    refine hK.out _ _ ⟨(KEEP.out _ (below_alloc w2 _).drew).1, (KEEP.out _ (below_alloc w2 _).drew).2.2⟩ (fun hHeld => ?_)
    clear hK K
    try simp only [Act.put, List.setIfInBounds_toArray, List.set_cons_zero, List.set_cons_succ]
    refine wpAnyH_ready (rs := [4]) (by kernel_rfl) (by simp) (AllReadyH.cons (o := { dst := some 40, op := Op.load 98 (Operand.tmp 39), type := 98, pos := "sector.go:104", after := #[{ on := 3, ground := Ground.data }], guard := none }) rfl (fun K hK => ?_) AllReadyH.nil)
    have d4' := (KEEP.out _ (below_alloc w2 (.cells (wArr k cs.toArray) 105)).drew).2.1
    go_simp
    refine hK.out _ _ ⟨(KEEP.out _ (below_alloc w2 _).drew).1, (KEEP.out _ (below_alloc w2 _).drew).2.2⟩ (fun hHeld => ?_)
    clear hK K
    try simp only [Act.put, List.setIfInBounds_toArray, List.set_cons_zero, List.set_cons_succ]
  all_goals
    refine wpAnyH_ready (rs := [15]) (by kernel_rfl) (by simp) (AllReadyH.cons (o := { dst := some 51, op := Op.call { callee := Callee.builtin Builtin.append, args := #[Operand.tmp 40, Operand.tmp 50], argTypes := #[98, 98] }, type := 98, pos := "sector.go:104", after := #[{ on := 4, ground := Ground.data }, { on := 14, ground := Ground.data }], guard := none }) rfl (fun K hK => ?_) AllReadyH.nil)
    refine step_win_append rfl (.tmp 40) (.tmp 50) 98 rfl 105 i0 zeroW 65 72 Tryz.underlying98 hi0 hz0 hz1 hz2 zeroW_cells (by decide) (.slice ua s.since.length uc) s.since.length (wcells s.since) (by rfl) (by have := HWU.out; rw [HU.out] at this; exact this.later (below_alloc w2 _).drew) ⟨w2.heap.size, 0, none⟩ 1 1 (wArr k cs.toArray).toList (by rfl) (by rw [Array.length_toList, hW]) (by exact news_new w2 _ _) (by rw [HWL.out]; exact wcell_one _) (by unfold maxLen; omega) (by omega) ?_
    intro v' w3 hwin hgrow hat
    obtain ⟨va, vc, hvv⟩ := win_shape hwin
    subst hvv
    obtain ⟨S3, gf⟩ := K3.out _ w3 (below_alloc w2 _).drew hgrow
    have g4 := S3.2.1
    refine hK.out _ _ ⟨S3.1, S3.2.2⟩ (fun hHeld => ?_)
    clear hK K
    try simp only [Act.put, List.setIfInBounds_toArray, List.set_cons_zero, List.set_cons_succ]
    refine wpAnyH_take (i := 16) (oi := { dst := some 52, op := Op.nilCheck (Operand.tmp 36), type := 0, pos := "sector.go:104", after := #[{ on := 0, ground := Ground.data }, { on := 0, ground := Ground.phase }, { on := 1, ground := Ground.phase }, { on := 2, ground := Ground.phase }, { on := 3, ground := Ground.phase }, { on := 4, ground := Ground.phase }, { on := 5, ground := Ground.phase }, { on := 6, ground := Ground.phase }, { on := 7, ground := Ground.phase }, { on := 8, ground := Ground.phase }, { on := 9, ground := Ground.phase }, { on := 10, ground := Ground.phase }, { on := 11, ground := Ground.phase }, { on := 12, ground := Ground.phase }, { on := 13, ground := Ground.phase }, { on := 14, ground := Ground.phase }, { on := 15, ground := Ground.phase }], guard := none }) (v := .pointer (some ⟨p.D, 0, none⟩)) rfl (by kernel_rfl) (by kernel_rfl) (by kernel_rfl) (fun _ _ _ h => h) (Or.inl ⟨by rfl, by intro wS hSw; go_simp⟩) hHeld ?_
    simp only [Act.put, List.setIfInBounds_toArray, List.set_cons_zero, List.set_cons_succ]
    refine wpAnyH_take (i := 17) (oi := { dst := some 53, op := Op.fieldAddr 100 (Operand.tmp 52) 4, type := 0, pos := "sector.go:104", after := #[{ on := 16, ground := Ground.data }, { on := 0, ground := Ground.phase }, { on := 1, ground := Ground.phase }, { on := 2, ground := Ground.phase }, { on := 3, ground := Ground.phase }, { on := 4, ground := Ground.phase }, { on := 5, ground := Ground.phase }, { on := 6, ground := Ground.phase }, { on := 7, ground := Ground.phase }, { on := 8, ground := Ground.phase }, { on := 9, ground := Ground.phase }, { on := 10, ground := Ground.phase }, { on := 11, ground := Ground.phase }, { on := 12, ground := Ground.phase }, { on := 13, ground := Ground.phase }, { on := 14, ground := Ground.phase }, { on := 15, ground := Ground.phase }], guard := none }) (v := .pointer (some ⟨p.D, 4, none⟩)) rfl (by kernel_rfl) (by kernel_rfl) (by kernel_rfl) (fun _ _ _ h => h) (Or.inl ⟨by rfl, by intro wS hSw; go_simp⟩) hHeld ?_
    simp only [Act.put, List.setIfInBounds_toArray, List.set_cons_zero, List.set_cons_succ]
    refine wpAnyH_ready (rs := [18]) (by kernel_rfl) (by simp) (AllReadyH.cons (o := { dst := none, op := Op.store 98 (Operand.tmp 53) (Operand.tmp 51), type := 0, pos := "sector.go:104", after := #[{ on := 17, ground := Ground.data }, { on := 15, ground := Ground.data }, { on := 15, ground := Ground.chain }, { on := 0, ground := Ground.phase }, { on := 1, ground := Ground.phase }, { on := 2, ground := Ground.phase }, { on := 3, ground := Ground.phase }, { on := 4, ground := Ground.phase }, { on := 5, ground := Ground.phase }, { on := 6, ground := Ground.phase }, { on := 7, ground := Ground.phase }, { on := 8, ground := Ground.phase }, { on := 9, ground := Ground.phase }, { on := 10, ground := Ground.phase }, { on := 11, ground := Ground.phase }, { on := 12, ground := Ground.phase }, { on := 13, ground := Ground.phase }, { on := 14, ground := Ground.phase }, { on := 15, ground := Ground.phase }], guard := none }) rfl (fun K hK => ?_) AllReadyH.nil)
    go_simp
    refine hK.out _ _ (K4.out _ ⟨S3.1, S3.2.2⟩ _) (fun hHeld => ?_)
    clear hK K
    try simp only [Act.put, List.setIfInBounds_toArray, List.set_cons_zero, List.set_cons_succ]
    refine wpAnyH_done (by kernel_rfl) ?_ _
    refine NoPanic.normal ?_
    go_wp2
    go_ret
    refine ⟨rfl, ?_⟩
    have hbase1 : base ≤ w1.heap.size := Nat.le_trans HB.out HS.out.below.size
    have hwin' : Win w3 65 (.slice va (s.since.length + 1) vc) (s.take.since.length + 1) (wcells s.take.since ++ wcell (k, l)) := by rw [← HWL.out]; exact hwin
    obtain ⟨p', tag', e1, e2, e3⟩ := HP.out.written hbase1 k hk l HLL.out HLB.out (.slice va (s.since.length + 1) vc) (by rw [← HW2.out]; exact (below_alloc w2 (.cells (wArr k cs.toArray) 105)).drew) (by rw [HU.out]; exact hgrow) (by rw [HU.out]; exact hat) hwin'
    rw [HD.out] at e1 e2 e3
    exact ⟨p', tag', e1, e2, HS.out.trans e3⟩

end Go.Proofs.YtafkkehcacdodaaGreat
