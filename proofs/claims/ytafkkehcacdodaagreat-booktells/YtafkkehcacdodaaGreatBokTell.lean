/- Debts, Entries, Spans; found, ends. -/
import Derived.Test.YtafkkehcacdodaaGreatBokGrant
import Derived.Test.YtafkkehcacdodaaGreatTraSpans
import Derived.Test.YtafkkehcacdodaaGreatEntDecA
import Derived.Test.YtafkkehcacdodaaGreatStrAll
set_option maxRecDepth 100000
namespace Go.Proofs.YtafkkehcacdodaaGreat
open Go.RowKit Go.Shelf

/-- Entries in a row of the call's own. -/
abbrev ERow (w : World) (base : Nat) (v : Value) (l : List En) : Prop := w.ownsRow base 73 5 v l.length (l.flatMap eL5)

theorem append_e5 (W : World) (base : Nat) (v : Value) (l : List En) (e : En) (hv : ERow W base v l) (hbase : base ≤ W.heap.size) (hlen : l.length ≤ 1000000) :
    ∃ v' w', (Builtin.append_ #[63, 63] 63 #[v, .slice (some ⟨W.heap.size, 0, none⟩) 1 1]).run Tryz.prog (W.alloc (.cells #[.int .i64 e.kind, .int .i64 e.time, .int .u32 e.sub, .int .u32 e.addr, .int .i64 e.block] 73)) = .ok v' w' ∧
      ERow w' base v' (l ++ [e]) ∧ Below base W w' := by
  obtain ⟨i0, hi, hz0, hz1, hz2⟩ := info_parts infoE5
  have hown2 := World.ownsRow.alloc hv (.cells (enC e) 73)
  obtain ⟨v', w', hr, ho, hg, -⟩ := run_append_own (P := Tryz.prog) (W.alloc (.cells (enC e) 73)) base 63 63 73 i0 _ 5 32 Tryz.underlying63 hi hz0 hz1 hz2 rfl (by decide) v l.length (l.flatMap eL5) hown2
    ⟨W.heap.size, 0, none⟩ 1 1 (eL5 e) rfl (by
      intro j u hj
      rw [add_at, Nat.zero_add, (blk_new W _ _).cell]
      exact hj) (by
      intro u hu
      exact eL5_one [e] u (by rw [List.flatMap_cons, List.flatMap_nil, List.append_nil]; exact hu)) (by unfold maxLen; omega) (by omega) (by simp; omega)
  refine ⟨v', w', hr, ?_, ((Below.refl _ _).alloc hbase _).grown hg (by simp; omega) (fun k hk => (hv.lt k hk).1)⟩
  show w'.ownsRow base _ 5 v' (l ++ [e]).length ((l ++ [e]).flatMap eL5)
  rw [List.flatMap_append, List.length_append]
  have e1 : List.flatMap eL5 [e] = eL5 e := by rw [List.flatMap_cons, List.flatMap_nil, List.append_nil]
  rw [e1]
  exact ho

theorem run_equalIn_e5 (d : Nat) (w : World) (a : Option Addr) (l c : Nat) : (Op.equalIn (d + 1) 63 (.slice a l c) (.slice none 0 0)).run Tryz.prog w = .ok a.isNone w := by
  cases a <;> simp [Op.equalIn, run_underlying Tryz.underlying63]

theorem run_equal_e5 (w : World) (a : Option Addr) (l c : Nat) : (Op.equal 63 (.slice a l c) (.slice none 0 0)).run Tryz.prog w = .ok a.isNone w := run_equalIn_e5 9999 w a l c

theorem run_eql_e5 (w : World) (a : Option Addr) (l c : Nat) : (binOp .eql 63 (.slice a l c) (.slice none 0 0)).run Tryz.prog w = .ok (.bool a.isNone) w := by
  simp only [binOp]
  simp [run_equal_e5 w a l c]

set_option maxHeartbeats 1000000 in
theorem eclone_ok (w : World) (v : Value) (l : List En) (h : Win w 5 v l.length (l.flatMap eL5)) (hbig : l.length ≤ 1000000) :
    Calls Tryz.prog 66 #[v] w fun e w' => ∃ v', e = .returned v' ∧ Win w' 5 v' l.length (l.flatMap eL5) ∧ Below w.heap.size w w' ∧ ∀ g, v'.ownBlock = some g → w.heap.size ≤ g := by
  obtain ⟨i0, hi, hz0, hz1, hz2⟩ := info_parts infoE5
  have heq := run_eql_e5
  rcases h.2 with ⟨rfl, h0⟩ | ⟨g, oo, c, cs, rfl, hb, h2, h3, h4, h5⟩
  · have hl : l = [] := List.eq_nil_of_length_eq_zero h0
    subst hl
    have HW : Hid (Win w 5 (.slice none 0 0) ([] : List En).length (([] : List En).flatMap eL5)) := win_nil w 5
    clear h
    go_enter Tryz.func66, Tryz.ntmps66
    go_wp2
    go_ret
    exact ⟨_, rfl, HW.out, Below.refl _ _, fun g hg => by simp [Value.ownBlock] at hg⟩
  have hB : Below w.heap.size w (w.alloc (.cells #[] 73)) := below_alloc _ _
  have hown : (w.alloc (.cells #[] 73)).ownsRow w.heap.size 73 5 (.slice (some ⟨w.heap.size, 0, none⟩) 0 0) 0 [] := World.ownsRow_made w #[] 0 (Nat.le_refl _) (by decide) rfl
  have hsrc : ∀ j u, (l.flatMap eL5)[j]? = some u → (w.alloc (.cells #[] 73)).cell? ((⟨g, oo, none⟩ : Addr).add j) = some u := by
    intro j u hu
    have hr := hb.range oo (l.length * 5)
    rw [h5] at hr
    rw [add_at]
    exact cell_later hB (hr j u hu)
  obtain ⟨v', w1, hrun, ho, hg, _⟩ := run_append_own (P := Tryz.prog) (w.alloc (.cells #[] 73)) w.heap.size 63 63 73 i0 _ 5 32 Tryz.underlying63 hi hz0 hz1 hz2 rfl (by decide) (.slice (some ⟨w.heap.size, 0, none⟩) 0 0) 0 [] hown ⟨g, oo, none⟩ l.length c (l.flatMap eL5) h.1 hsrc (eL5_one l) (by unfold maxLen; omega) (by omega) (by simp)
  rw [Nat.zero_add, List.nil_append] at ho
  have HO : Hid (Win w1 5 v' l.length (l.flatMap eL5) ∧ ∀ g, v'.ownBlock = some g → w.heap.size ≤ g) := ⟨win_of_owns ho, fun g hg => (ho.lt g hg).1⟩
  have HB : Hid (Below w.heap.size w w1) := hB.grown hg (by simp) (fun k hk => by simp [Value.ownBlock] at hk; omega)
  unfold maxLen at h3
  clear ho hg hB hown hsrc h hi hz0 hz1 hz2 hb h4 h5
  go_enter Tryz.func66, Tryz.ntmps66
  go_wp2_with (at_builtin; refine wpl_append_run rfl _ _ 63 rfl _ _ rfl rfl hrun ?_)
  go_ret
  exact ⟨_, rfl, HO.out.1, HB.out, HO.out.2⟩

set_option maxHeartbeats 1000000 in
theorem bdebts_ok (w : World) (tag : Nat → Nat) (base o D B : Nat) (b : Bm) (h : BK w tag base o D B b) (hl : b.D.length ≤ 1000000) :
    Calls Tryz.prog 55 #[.pointer (some ⟨B, 0, none⟩)] w fun e w' => ∃ v', e = .returned v' ∧ Win w' 5 v' b.D.length (b.D.flatMap eL5) ∧ Below w.heap.size w w' ∧ ∀ g, v'.ownBlock = some g → w.heap.size ≤ g := by
  have HM := bmade_ok w tag base o D B b h
  obtain ⟨p, q', kv, dv, _, _, _, hPb⟩ := h
  have g2 := hPb.s2
  have HC := eclone_ok w dv b.D hPb.wD hl
  obtain ⟨a, c, rfl, _⟩ := win_form hPb.wD
  clear hPb
  go_enter Tryz.func55, Tryz.ntmps55
  go_wp2_with fail
  refine HM.mono ?_
  rintro e w' ⟨rfl, hx⟩
  rw [hx]
  clear hx
  go_wp2_with fail
  refine HC.mono ?_
  rintro e w' ⟨v', rfl, h1, h2⟩
  go_wp2
  go_ret
  exact ⟨_, rfl, h1, h2⟩

set_option maxHeartbeats 1000000 in
theorem bentries_ok (w : World) (tag : Nat → Nat) (base o D B : Nat) (b : Bm) (h : BK w tag base o D B b) (hl : b.L.length ≤ 1000000) :
    Calls Tryz.prog 27 #[.pointer (some ⟨B, 0, none⟩)] w fun e w' => ∃ v', e = .returned v' ∧ Win w' 5 v' b.L.length (b.L.flatMap eL5) ∧ Below w.heap.size w w' ∧ ∀ g, v'.ownBlock = some g → w.heap.size ≤ g := by
  have HM := bmade_ok w tag base o D B b h
  obtain ⟨p, q', kv, dv, _, _, _, hPb⟩ := h
  have g1 := hPb.s1
  have HC := eclone_ok w kv b.L hPb.wK hl
  obtain ⟨a, c, rfl, _⟩ := win_form hPb.wK
  clear hPb
  go_enter Tryz.func27, Tryz.ntmps27
  go_wp2_with fail
  refine HM.mono ?_
  rintro e w' ⟨rfl, hx⟩
  rw [hx]
  clear hx
  go_wp2_with fail
  refine HC.mono ?_
  rintro e w' ⟨v', rfl, h1, h2⟩
  go_wp2
  go_ret
  exact ⟨_, rfl, h1, h2⟩

set_option maxHeartbeats 1000000 in
theorem bspans_ok (w : World) (tag : Nat → Nat) (base o D B : Nat) (b : Bm) (h : BK w tag base o D B b) (hf : Fine b.L) (hl : b.L.length ≤ 1000) :
    Calls Tryz.prog 24 #[.pointer (some ⟨B, 0, none⟩)] w fun e w' => ∃ v', e = .returned v' ∧ SpRow w' (w.heap.size + 1) v' (spans b.L) ∧ Below w.heap.size w w' := by
  have HM := bmade_ok w tag base o D B b h
  obtain ⟨p, q', kv, dv, _, _, _, hPb⟩ := h
  have g1 := hPb.s1
  obtain ⟨EB, EO, hE, _⟩ := win_ens hPb.wK
  have HC := spans_ok kv EB EO b.L w hE hf.ok hl
  obtain ⟨a, c, rfl, _⟩ := win_form hPb.wK
  clear hPb hE
  go_enter Tryz.func24, Tryz.ntmps24
  go_wp2_with fail
  refine HM.mono ?_
  rintro e w' ⟨rfl, hx⟩
  rw [hx]
  clear hx
  go_wp2_with fail
  refine HC.mono ?_
  rintro e w' ⟨v', rfl, h1, h2⟩
  go_wp2
  go_ret
  exact ⟨_, rfl, h1, h2⟩

end Go.Proofs.YtafkkehcacdodaaGreat
