/- Write at any place with any bytes; numbers of a disk that stay small. -/
import Derived.Test.YtafkkehcacdodaaGreatSecMore
set_option maxRecDepth 100000
namespace Go.Proofs.YtafkkehcacdodaaGreat
open Go.RowKit

def wOk (s : St) (K : Int) (l : List Int) : Bool := hasB s.n K && decide (l.length = 64)
def wE (s : St) (K : Int) (l : List Int) : Int := if wOk s K l then errC s.out else 1
def wS (s : St) (K : Int) (l : List Int) : St := if wOk s K l then s.write K.toNat l else s

theorem write_any (w : World) (tag : Nat → Nat) (base o : Nat) (s : St) (p : PL) (h : PD w tag base o s p) (hbase : base ≤ w.heap.size) (K : Int) (v : Value) (l : List Int) (hv : Bts w v l)
    (hvo : ∀ g, v.ownBlock = some g → tag g / 16 ≠ o) (hops : s.ops ≤ 1000000) (hout : s.outs.length ≤ 1000000) (hsin : s.since.length ≤ 1000000) (D : Nat) (hD : p.D = D) :
    Calls Tryz.prog 110 #[.pointer (some ⟨D, 0, none⟩), .int .i64 K, v] w fun e w' => e = .returned (.int .i64 (wE s K l)) ∧ ∃ p' tag', p'.D = D ∧ PD w' tag' base o (wS s K l) p' ∧ Step tag tag' base o w w' := by
  subst hD
  by_cases hk : wOk s K l = true
  · have hk' := hk
    unfold wOk hasB at hk
    simp only [Bool.and_eq_true, decide_eq_true_eq] at hk
    have hK : K = (K.toNat : Int) := by omega
    have := write_okI w tag base o s p h hbase K K.toNat hK (by omega) v l hv hk.2 hvo hops hout hsin _ rfl
    unfold wE wS
    rw [if_pos hk', if_pos hk']
    exact this
  · have hk' : hasB s.n K = false ∨ l.length ≠ 64 := by
      unfold wOk at hk
      simp only [Bool.and_eq_true, decide_eq_true_eq, not_and] at hk
      by_cases hb : hasB s.n K = true
      · exact .inr (hk hb)
      · exact .inl (by simpa using hb)
    refine (write_no w tag base o s p h K v l hv hk').mono ?_
    rintro e w' ⟨rfl, rfl⟩
    unfold wE wS
    rw [if_neg hk, if_neg hk]
    exact ⟨rfl, p, tag, rfl, h, Step.refl _ _ _ _⟩

theorem bts_lt {w : World} {v : Value} {l : List Int} (h : Bts w v l) (hl : l ≠ []) : ∀ g, v.ownBlock = some g → g < w.heap.size := by
  obtain ⟨a, cap, b, off, rfl, _, _, _, ha, hs⟩ := h
  rcases ha with rfl | hn
  · intro g hg
    simp [Value.ownBlock] at hg
    subst hg
    exact World.block_lt_of_cell? w _ (hs 0 (List.length_pos_iff.2 hl))
  · exact absurd hn hl

/-- A disk's numbers stay small. -/
structure Few (s : St) (n q : Nat) : Prop where
  n : s.n = n
  ops : s.ops ≤ q
  sin : s.since.length ≤ q

theorem Few.take {s : St} {n q : Nat} (h : Few s n q) : Few s.take n (q + 1) := ⟨h.n, Nat.succ_le_succ h.ops, Nat.le_succ_of_le h.sin⟩

theorem Few.wS {s : St} {n q : Nat} (h : Few s n q) (K : Int) (l : List Int) : Few (wS s K l) n (q + 1) := by
  unfold Go.Proofs.YtafkkehcacdodaaGreat.wS
  split
  · unfold St.write
    split
    · exact ⟨h.n, Nat.succ_le_succ h.ops, by simp [St.wrote, St.take]; exact h.sin⟩
    · exact h.take
  · exact ⟨h.n, Nat.le_succ_of_le h.ops, Nat.le_succ_of_le h.sin⟩

theorem Few.sync {s : St} {n q : Nat} (h : Few s n q) : Few s.sync n (q + 1) := by
  unfold St.sync
  split
  · exact ⟨h.n, Nat.succ_le_succ h.ops, by simp [St.settled]⟩
  · exact h.take

theorem Few.add {s : St} {n q : Nat} (h : Few s n q) (l : List Int) : Few (s.add l) n (q + 1) := ⟨h.n, Nat.le_succ_of_le h.ops, Nat.le_succ_of_le h.sin⟩

theorem Few.crash {s : St} {n q : Nat} (h : Few s n q) (l : List Int) : Few (s.crash l) n (q + 1) := ⟨h.n, Nat.zero_le _, Nat.zero_le _⟩

theorem Few.mono {s : St} {n q : Nat} (h : Few s n q) : Few s n (q + 1) := ⟨h.n, Nat.le_succ_of_le h.ops, Nat.le_succ_of_le h.sin⟩

theorem outs_take (s : St) : s.take.outs.length ≤ s.outs.length := by simp [St.take]

theorem outs_wS (s : St) (K : Int) (l : List Int) : (wS s K l).outs.length ≤ s.outs.length := by
  unfold wS
  split
  · unfold St.write
    split
    · exact outs_take s
    · exact outs_take s
  · exact Nat.le_refl _

theorem outs_nil_wS (s : St) (K : Int) (l : List Int) (h : s.outs = []) : (wS s K l).outs = [] :=
  List.eq_nil_of_length_eq_zero (Nat.le_zero.1 (by have := outs_wS s K l; rw [h] at this; exact this))

theorem outs_sync (s : St) : s.sync.outs.length ≤ s.outs.length := by
  unfold St.sync
  split
  · exact outs_take s
  · exact outs_take s

theorem owns_mono {w : World} {N M : Nat} {v : Value} {l : List Int} (h : Owns w N v l) (hM : M ≤ N) : Owns w M v l := by
  refine ⟨h.1, ?_⟩
  rcases h.2 with h0 | ⟨g, cap, cur, hv, hg, r⟩
  · exact .inl h0
  · exact .inr ⟨g, cap, cur, hv, Nat.le_trans hM hg, r⟩

end Go.Proofs.YtafkkehcacdodaaGreat
