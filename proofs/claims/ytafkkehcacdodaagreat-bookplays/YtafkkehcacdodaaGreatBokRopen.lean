/- The document's Open: a book is made, its entries are found. -/
import Derived.Test.YtafkkehcacdodaaGreatBokRwrite
import Derived.Test.YtafkkehcacdodaaGreatBokOpen
import Derived.Test.YtafkkehcacdodaaGreatEntRDec2
import Derived.Test.YtafkkehcacdodaaGreatTraRspans
set_option maxRecDepth 100000
namespace Go.Proofs.YtafkkehcacdodaaGreat
open Go.RowKit Go.Shelf

/-- A book of the document, its strand at T. -/
def RKT (w : World) (tag : Nat → Nat) (base o M T B : Nat) (b : Bm) : Prop :=
  ∃ p q kv dv, p.M = M ∧ q.T = T ∧ MD w tag base o b.s p ∧ MSt w tag base (o + 1) M b.s.n b.t q ∧ PB w tag base (o + 2) q.T b.L b.D B kv dv

section
variable {w w' : World} {tag tag' : Nat → Nat} {base o M T B : Nat} {b : Bm}

theorem RKT.rk (h : RKT w tag base o M T B b) : RK w tag base o M B b := by
  obtain ⟨p, q, kv, dv, h0, _, h1, h2, h3⟩ := h
  exact ⟨p, q, kv, dv, h0, h1, h2, h3⟩

theorem RKT.later (h : RKT w tag base o M T B b) (hb : Below w.heap.size w w') : RKT w' tag base o M T B b := by
  obtain ⟨p, q, kv, dv, h0, ht, h1, h2, h3⟩ := h
  exact ⟨p, q, kv, dv, h0, ht, h1.later hb, h2.later hb, h3.later hb⟩

theorem RKT.new (h : RKT w tag base o M T B b) (hb : Below w.heap.size w w') : RKT w' (clip tag w.heap.size) base o M T B b := by
  obtain ⟨p, q, kv, dv, h0, ht, h1, h2, h3⟩ := h
  exact ⟨p, q, kv, dv, h0, ht, h1.keep (fun k hk _ => hb.block k hk) (fun k hk => clip_lt _ _ _ hk), h2.keep (fun k hk _ => hb.block k hk) (fun k hk => clip_lt _ _ _ hk) hb.size, h3.keep (fun k hk _ => hb.block k hk) (fun k hk => clip_lt _ _ _ hk)⟩

/-- The strand's bodies are seen. -/
theorem RKT.bodies (h : RKT w tag base o M T B b) : ∃ lv vs, w.cell? ⟨T, 3, none⟩ = some lv ∧ Win w 1 lv (Go.Proofs.YtafkkehcacdodaaGreat.bodies b.t).length vs ∧ ∀ i, i < (Go.Proofs.YtafkkehcacdodaaGreat.bodies b.t).length → Bts w (vs.getD i undef) ((Go.Proofs.YtafkkehcacdodaaGreat.bodies b.t).getD i []) := by
  obtain ⟨p, q, kv, dv, h0, rfl, h1, h2, h3⟩ := h
  exact ⟨q.lv, q.vs, h2.bT.cell 3, h2.wL, h2.bt⟩

theorem RKT.b0 (h : RKT w tag base o M T B b) : w.cell? ⟨B, 0, none⟩ = some (.pointer (some ⟨T, 0, none⟩)) := by
  obtain ⟨p, q, kv, dv, h0, rfl, h1, h2, h3⟩ := h
  exact h3.s0

/-- One entry more is told. -/
theorem RKT.known (h : RKT w tag base o M T B b) (hbase : base ≤ w.heap.size) (hl : b.L.length ≤ 900000) (r : En) :
    ∃ a c, w.cell? ⟨B, 1, none⟩ = some (.slice a b.L.length c) ∧ B < w.heap.size ∧ ∃ a5 c5 w5, (Builtin.append_ #[63, 63] 63 #[.slice a b.L.length c, .slice (some ⟨w.heap.size, 0, none⟩) 1 1]).run Tryz.prog (w.alloc (.cells (enC r) 73)) = .ok (.slice a5 (b.L.length + 1) c5) w5 ∧
      w5.cell? ⟨B, 1, none⟩ = some (.slice a b.L.length c) ∧ w5.frozen? ⟨B, 1, none⟩ = false ∧ ∃ tag', StepR tag tag' base (o + 2) (o + 2) w (w5.setCell ⟨B, 1, none⟩ (.slice a5 (b.L.length + 1) c5)) ∧ RKT (w5.setCell ⟨B, 1, none⟩ (.slice a5 (b.L.length + 1) c5)) tag' base o M T B ⟨b.s, b.t, b.L ++ [r], b.D⟩ := by
  obtain ⟨p, q', kv, dv, hD, hT, hP, hPo, hPb⟩ := h
  obtain ⟨a, c, rfl, a5, c5, w5, h1, h2, h3, tag', h4, h5⟩ := pb_known hPb hbase hl r
  exact ⟨a, c, hPb.s1, hPb.bB.lt, a5, c5, w5, h1, h2, h3, tag', h4, p, q', _, dv, hD, hT, hP.otherR h4 (by omega), hPo.otherR h4 (by omega), h5⟩

theorem RKT.seen (h : RKT w tag base o M T B b) : ∃ kv EB EO, w.cell? ⟨B, 1, none⟩ = some kv ∧ Ens w kv EB EO b.L := by
  obtain ⟨p, q', kv, dv, hD, hT, hP, hPo, hPb⟩ := h
  obtain ⟨EB, EO, hE, _⟩ := win_ens hPb.wK
  exact ⟨kv, EB, EO, hPb.s1, hE⟩

end

/-- A document's book that was just made over a strand. -/
theorem rk_made {w6 : World} {tag6 : Nat → Nat} {base o : Nat} {s : St} {p : ML} {t : Sd} {q : TL} (hP : MD w6 tag6 base o s p) (hQ : MSt w6 tag6 base (o + 1) p.M s.n t q) (hbase : base ≤ w6.heap.size) (ty : TypeId) :
    ∃ tag', (∀ k, k < w6.heap.size → tag' k = tag6 k) ∧ RKT (w6.alloc (.cells #[.pointer (some ⟨q.T, 0, none⟩), .slice none 0 0, .slice none 0 0] ty)) tag' base o p.M q.T w6.heap.size ⟨s, t, [], []⟩ := by
  have hB := below_alloc w6 (.cells #[.pointer (some ⟨q.T, 0, none⟩), .slice none 0 0, .slice none 0 0] ty)
  obtain ⟨tag', htag⟩ : ∃ tag' : Nat → Nat, tag' = fun k => if k < w6.heap.size then tag6 k else 16 * (o + 2) + 1 := ⟨_, rfl⟩
  have t1 : ∀ k, k < w6.heap.size → tag' k = tag6 k := fun k hk => by rw [htag]; simp [hk]
  have t2 : tag' w6.heap.size = 16 * (o + 2) + 1 := by rw [htag]; simp
  refine ⟨tag', t1, p, q, .slice none 0 0, .slice none 0 0, rfl, rfl, hP.keep (fun k hk _ => hB.block k hk) t1, hQ.keep (fun k hk _ => hB.block k hk) t1 hB.size, ⟨blk_new _ _ _, win_nil _ _, win_nil _ _, ⟨t2, hbase⟩, fun g hg => by simp [Value.ownBlock] at hg, fun g hg => by simp [Value.ownBlock] at hg⟩⟩

theorem rgood_ok (w : World) (t : Int) : Calls Tryz.prog 35 #[.int .i64 t] w fun e w' => e = .returned (.bool (goodT t)) ∧ w' = w := by
  have HG : Hid (goodT t = decide (0 ≤ t ∧ t ≤ 1099511627776)) := rfl
  by_cases h0 : 0 ≤ t
  · by_cases h1 : t ≤ 1099511627776
    · have HT : Hid (goodT t = true) := by show _ = _; rw [HG.out]; exact decide_eq_true ⟨h0, h1⟩
      go_enter Tryz.func35, Tryz.ntmps35
      go_wp2
      go_ret
      exact ⟨by rw [HT.out]; rfl, rfl⟩
    · have HT : Hid (goodT t = false) := by show _ = _; rw [HG.out]; exact decide_eq_false (fun h => h1 h.2)
      go_enter Tryz.func35, Tryz.ntmps35
      go_wp2
      go_ret
      exact ⟨by rw [HT.out]; rfl, rfl⟩
  · have HT : Hid (goodT t = false) := by show _ = _; rw [HG.out]; exact decide_eq_false (fun h => h0 h.1)
    go_enter Tryz.func35, Tryz.ntmps35
    go_wp2
    go_ret
    exact ⟨by rw [HT.out]; rfl, rfl⟩

theorem ropen_bad (w : World) (M : Nat) (now : Int) (h : goodT now = false) : Calls Tryz.prog 10 #[.pointer (some ⟨M, 0, none⟩), .int .i64 now] w fun e w' => e = .returned (.tuple #[.pointer none, .int .i64 1]) ∧ w' = w := by
  have hG := rgood_ok w now
  rw [h] at hG
  clear h
  go_enter Tryz.func10, Tryz.ntmps10
  go_wp2_with fail
  refine (by exact hG : Calls _ _ _ _ _).mono ?_
  rintro e w1 ⟨rfl, rfl⟩
  go_wp2
  go_ret2
  exact ⟨rfl, rfl⟩

end Go.Proofs.YtafkkehcacdodaaGreat
