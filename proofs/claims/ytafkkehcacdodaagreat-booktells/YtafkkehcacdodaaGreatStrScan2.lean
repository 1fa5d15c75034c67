/- Scan. -/
import Derived.Test.YtafkkehcacdodaaGreatStrScan
import Derived.Test.YtafkkehcacdodaaGreatStrList
import Derived.Deep.LoopGhost
set_option maxRecDepth 100000
namespace Go.Proofs.YtafkkehcacdodaaGreat
open Go.RowKit

/-- What holds between two rounds of Scan. -/
def ScanI (w : World) (R : Nat) (l : List Int) (gk : Nat) (v bo ok : Value) (wr : World) : Prop :=
  ∃ ls vs, Lst wr (R + 1) v vs ls ∧ Below R w wr ∧ R < wr.heap.size ∧ ls.length + gk ≤ l.length + 1 ∧
    ((ok = .bool false ∧ scanB l = ls) ∨ (ok = .bool true ∧ ∃ x r A b off cap, Bts wr bo x ∧ x ≠ [] ∧ x.length ≤ 56 ∧ Rdr wr R A b off cap r ∧ (r ≠ [] → b < R) ∧ scanB l = ls ++ x :: scanB r ∧ gk = r.length + 1))

theorem Rdr.same {w w' : World} {R : Nat} {A : Option Addr} {b off cap : Nat} {l : List Int} (h : Rdr w R A b off cap l) (hR : w'.heap[R]? = w.heap[R]?) (hb : l ≠ [] → w'.heap[b]? = w.heap[b]?) : Rdr w' R A b off cap l := by
  have e1 : ∀ j, w'.cell? ⟨R, j, none⟩ = w.cell? ⟨R, j, none⟩ := fun j => by unfold World.cell?; simp only [hR]
  have e2 : w'.frozen? ⟨R, 0, none⟩ = w.frozen? ⟨R, 0, none⟩ := by unfold World.frozen?; simp only [hR]
  refine ⟨by rw [e1]; exact h.cell, by rw [e2]; exact h.frz, h.le, h.mx, h.bt, h.ad, ?_, h.ne⟩
  intro i hi
  have hne : l ≠ [] := fun e => by rw [e] at hi; simp at hi
  rw [← h.sees i hi]
  unfold World.cell?
  simp only [hb hne]

/-- What next answers, at whatever bytes. -/
theorem next_any (w : World) (R : Nat) (A : Option Addr) (b off cap : Nat) (l : List Int) (h : Rdr w R A b off cap l) (hR : R < w.heap.size) (hb : l ≠ [] → b < R) :
    Calls Tryz.prog 95 #[.pointer (some ⟨R, 0, none⟩)] w fun e w' => ∃ v ok, e = .returned (.tuple #[v, .bool ok]) ∧ Below R w w' ∧ (∀ g, g < w.heap.size → g ≠ R → w'.heap[g]? = w.heap[g]?) ∧
      ((ok = false ∧ okB l = false ∧ ∃ A' b' off' cap', Rdr w' R A' b' off' cap' l) ∨ (ok = true ∧ okB l = true ∧ Bts w' v (bodyB l) ∧ ∃ A' b' off' cap', Rdr w' R A' b' off' cap' (l.drop ((bodyB l).length + 7)) ∧ (l.drop ((bodyB l).length + 7) ≠ [] → b' < R))) := by
  by_cases hk : okB l = true
  · have hl := bodyB_len hk
    have hne : l ≠ [] := fun e => by rw [e] at hl; simp at hl
    refine (next_ok8 w R A b off cap l h hR (by have := hb hne; omega) hk).mono ?_
    rintro e w' ⟨v, rfl, hN⟩
    obtain ⟨A', off', cap', hR'⟩ := hN.rest
    exact ⟨v, true, rfl, hN.below R (Nat.le_refl _) (by omega), hN.kept, .inr ⟨rfl, hk, hN.body, A', b, off', cap', hR', fun _ => hb hne⟩⟩
  · have hk' : okB l = false := by simpa using hk
    refine (next_no w R A b off cap l h hk').mono ?_
    rintro e w' ⟨rfl, hB⟩
    refine ⟨_, false, rfl, hB.mono (by omega), fun g hg _ => hB.block g hg, .inl ⟨rfl, hk', A, b, off, cap, h.same (hB.block R hR) (fun hne => hB.block b (by have := hb hne; omega))⟩⟩

set_option maxHeartbeats 4000000 in
theorem scan_ok (w : World) (v0 : Value) (l : List Int) (h : Bts w v0 l) (hbig : l.length ≤ 900000) :
    Calls Tryz.prog 64 #[v0] w fun e w' => ∃ v vs, e = .returned v ∧ Lst w' w.heap.size v vs (scanB l) ∧ Below w.heap.size w w' := by
  have HV : Hid (Bts w v0 l) := h
  obtain ⟨a, cap, b, off, rfl, hl, hm, hbb, ha, hs⟩ := h
  have hR0 : Rdr (w.alloc (.cells #[.slice a l.length cap] 159)) w.heap.size a b off cap l := by
    have hb := blk_new w #[.slice a l.length cap] 159
    refine ⟨hb.cell 0, hb.frozen 0, hl, hm, hbb, ha, hs.later (below_alloc _ _), ?_⟩
    intro hne e
    have := World.block_lt_of_cell? w _ (hs 0 (List.length_pos_iff.2 hne))
    have : b < w.heap.size := this
    omega
  have hb0 : l ≠ [] → b < w.heap.size := fun hne => World.block_lt_of_cell? w _ (hs 0 (List.length_pos_iff.2 hne))
  have HN := next_any _ w.heap.size a b off cap l hR0 (by simp) hb0
  clear hR0 hs ha hb0
  go_enter Tryz.func64, Tryz.ntmps64
  go_wp2_with (go_at_call 95; refine HN.mono ?_; rintro e w1 ⟨bo, ok, rfl, hB1, _, hx⟩)
  go_loopg [5, 6, 7] (if ok = true then (l.drop ((bodyB l).length + 7)).length + 1 else 0) (fun gk v bo ok wr => ScanI w w.heap.size l gk v bo ok wr)
  case atStart =>
    have hB : Below w.heap.size w w1 := (below_alloc w _).trans hB1
    refine ⟨[], [], lst_nil _ _, hB, by have := hB1.size; simp at this; omega, ?_, ?_⟩
    · split <;> simp
    · rcases hx with ⟨rfl, hk, _⟩ | ⟨rfl, hk, hbt, A', b', off', cap', hR', hb'⟩
      · exact .inl ⟨rfl, scanB_no hk⟩
      · have hl := bodyB_len hk
        exact .inr ⟨rfl, bodyB l, _, A', b', off', cap', hbt, fun e => by rw [e] at hl; simp at hl, hl.2.2.1, hR', hb', by rw [List.nil_append]; exact scanB_yes hk, by simp⟩
  case round =>
    obtain ⟨ls, vs, hL, hB, hRlt, hsz, ⟨rfl, hE⟩ | ⟨rfl, x, r, A, b, off, cap, hbo, hx, hx56, hR, hbR, hE, rfl⟩⟩ := hrel
    · go_wp2
      go_ret
      exact ⟨_, vs, rfl, by rw [hE]; exact hL.mono (by omega), hB⟩
    · obtain ⟨av, cv, hvv⟩ := win_shape hL.win
      subst hvv
      have HC := clone8_ok wr _ x hbo hx (by omega)
      have hxb : isBytes x := by obtain ⟨_, _, _, _, _, _, _, hb, _⟩ := hbo; exact hb
      have HPU : Hid (∀ w2 u, Owns w2 wr.heap.size u x → Below wr.heap.size wr w2 → ∃ v' w3, (Builtin.append_ #[79, 79] 79 #[.slice av ls.length cv, .slice (some ⟨w2.heap.size, 0, none⟩) 1 1]).run Tryz.prog (w2.alloc (.cells #[u] 39)) = .ok v' w3 ∧ Lst w3 (w.heap.size + 1) v' (vs ++ [u]) (ls ++ [x]) ∧
          Below w.heap.size w w3 ∧ w.heap.size < w3.heap.size ∧ (∃ a c, v' = .slice a (ls.length + 1) c) ∧ Rdr w3 w.heap.size A b off cap r) := by
        intro w2 u hO hB2
        obtain ⟨v', w3, e1, e2, _, e4, e5⟩ := hL.push hB2 (hO.bts hxb) (fun g hg => hO.lt g hg) (by omega) (by have := hsz; omega)
        have hs2 := hB2.size
        have hs3 := e4.size
        rw [World.size_alloc] at hs3
        have hkeep : ∀ g, g ≤ w.heap.size → w3.heap[g]? = wr.heap[g]? := fun g hg => by
          rw [e4.block g (by simp; omega) (fun e => by have := hL.blk g e.symm; omega), Below.heap_alloc _ _ _ (by omega)]
          exact hB2.block g (by omega)
        refine ⟨v', w3, e1, e2, ?_, by omega, e5, hR.same (hkeep _ (Nat.le_refl _)) (fun hne => hkeep _ (by have := hbR hne; omega))⟩
        refine (hB.trans ((hB2.trans ((below_alloc w2 _).mono hs2)).mono hB.size)).grown e4 (by simp; omega) (fun k hk => by have := hL.blk k hk; omega)
      obtain ⟨ba, bc, hbv, _⟩ := bts_src hbo
      subst hbv
      clear hbo hL hB hR hx
      go_wp2_with (first
        | (go_at_call 72; refine HC.mono ?_; rintro e w2 ⟨u, rfl, hO, hB2⟩; obtain ⟨v', w3, hrun, hL3, hB3, hR3, ⟨a3, c3, rfl⟩, hr3⟩ := HPU.out w2 u hO hB2; obtain ⟨ua, uc, rfl, _⟩ := bts_src (hO.bts hxb))
        | (at_builtin; refine wpl_append_run rfl _ _ 79 rfl _ _ rfl rfl hrun ?_))
      refine (next_any w3 w.heap.size A b off cap r hr3 hR3 hbR).mono ?_
      rintro e w4 ⟨bo4, ok4, rfl, hB4, hk4, hx4⟩
      have HB4 : Hid (Below w.heap.size w3 w4) := hB4
      have HL4 : Hid (Lst w4 (w.heap.size + 1) (.slice a3 (ls.length + 1) c3) (vs ++ [.slice ua x.length uc]) (ls ++ [x])) := hL3.kept (fun g h1 h2 => hk4 g h2 (by omega)) hB4.size
      have hsb : w3.heap.size ≤ w4.heap.size := hB4.size
      clear hB4 hL3 hO hB2 hr3 hk4
      go_wp2
      go_roundg (if ok4 = true then (r.drop ((bodyB r).length + 7)).length + 1 else 0)
      case measure =>
        have : (r.drop ((bodyB r).length + 7)).length + 1 ≤ r.length + 1 := by simp
        split
        · rename_i hok
          rcases hx4 with ⟨e, _⟩ | ⟨_, hk, _⟩
          · rw [e] at hok; cases hok
          · have := bodyB_len hk
            simp only [List.length_drop]; omega
        · omega
      case rel =>
        refine ⟨ls ++ [x], vs ++ [.slice ua x.length uc], HL4.out, hB3.trans HB4.out, by omega, ?_, ?_⟩
        · rw [List.length_append, List.length_singleton]
          have : (r.drop ((bodyB r).length + 7)).length + 1 ≤ r.length + 1 := by simp
          split
          · rename_i hok
            rcases hx4 with ⟨e, _⟩ | ⟨_, hk, _⟩
            · rw [e] at hok; cases hok
            · have := bodyB_len hk
              simp only [List.length_drop] at this ⊢; omega
          · omega
        · rcases hx4 with ⟨rfl, hk, _⟩ | ⟨rfl, hk, hbt, A', b', off', cap', hR', hb'⟩
          · exact .inl ⟨rfl, by rw [hE, scanB_no hk]⟩
          · have hl := bodyB_len hk
            exact .inr ⟨rfl, bodyB r, _, A', b', off', cap', hbt, fun e => by rw [e] at hl; simp at hl, hl.2.2.1, hR', hb', by rw [hE, scanB_yes hk]; simp, by simp⟩

end Go.Proofs.YtafkkehcacdodaaGreat
