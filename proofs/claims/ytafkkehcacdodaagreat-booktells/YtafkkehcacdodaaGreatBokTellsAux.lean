/- BookTells: the small sums of a round. -/
import Derived.Test.YtafkkehcacdodaaGreatBokTellsRow
set_option maxRecDepth 100000
namespace Go.Proofs.YtafkkehcacdodaaGreat
open Go.RowKit Go.Shelf

/-- The lowest bits of any whole number. -/
theorem low_bits (x : Int) (i : Nat) (hi : i ≤ 62) : 0 ≤ bits .and .i64 x (2 ^ i - 1) ∧ bits .and .i64 x (2 ^ i - 1) < 2 ^ i := by
  obtain ⟨a, ha⟩ : ∃ a, (BitVec.ofInt 64 x).toNat = a := ⟨_, rfl⟩
  have hp : 2 ^ i ≤ 2 ^ 62 := Nat.pow_le_pow_right (by omega) hi
  have hp0 : 0 < 2 ^ i := Nat.pow_pos (by omega)
  have e0 : ((2 : Int) ^ i - 1) = ((2 ^ i - 1 : Nat) : Int) := by
    rw [Int.ofNat_sub (by omega)]
    simp
  have e2 : (BitVec.ofInt 64 ((2 ^ i - 1 : Nat) : Int)).toNat = 2 ^ i - 1 := by
    rw [BitVec.ofInt_natCast, BitVec.toNat_ofNat]; exact Nat.mod_eq_of_lt (by omega)
  have e : bits .and .i64 x (2 ^ i - 1) = ((a % 2 ^ i : Nat) : Int) := by
    rw [e0]
    show IntKind.i64.wrap ((BitVec.ofInt 64 x &&& BitVec.ofInt 64 ((2 ^ i - 1 : Nat) : Int)).toNat : Int) = _
    rw [BitVec.toNat_and, ha, e2, Nat.and_two_pow_sub_one_eq_mod]
    have := Nat.mod_lt a hp0
    exact i64_id _ (by omega) (by omega)
  have hm := Nat.mod_lt a hp0
  rw [e]
  refine ⟨by omega, ?_⟩
  have e3 : ((2 : Int) ^ i) = ((2 ^ i : Nat) : Int) := by simp
  rw [e3]
  omega

theorem and_three (x : Int) : 0 ≤ bits .and .i64 x 3 ∧ bits .and .i64 x 3 ≤ 3 := by
  have h := low_bits x 2 (by omega)
  have e : ((2 : Int) ^ 2 - 1) = 3 := by decide
  have e4 : ((2 : Int) ^ 2) = 4 := by decide
  rw [e, e4] at h
  omega

theorem and_k (x : Int) : 0 ≤ bits .and .i64 x 1023 ∧ bits .and .i64 x 1023 ≤ 1023 := by
  have h := low_bits x 10 (by omega)
  have e : ((2 : Int) ^ 10 - 1) = 1023 := by decide
  have e4 : ((2 : Int) ^ 10) = 1024 := by decide
  rw [e, e4] at h
  omega

theorem upd_upd (f : Nat → Int) (κ : Nat) (u v : Int) : upd (upd f κ u) κ v = upd f κ v := by
  funext i
  unfold upd
  split <;> rfl

theorem ka_in (κ : Nat) : 0 ≤ ka κ ∧ ka κ ≤ 1 := by unfold ka; omega

theorem kb_in {κ : Nat} (h : κ < 6) : 0 ≤ kb κ ∧ kb κ ≤ 2 := by unfold kb; omega

section
variable {w : World} {D B ob tb k : Nat} {m : Bm} {G : List Tr} {ow tm : Nat → Int} {now : Int} {A : List Sp} {vq : Value} {wr wr' : World} {tag tag' : Nat → Nat}

theorem TI.fresh (h : TI w D B ob tb k m G ow tm now A vq wr tag) (hb : Below wr.heap.size wr wr') : TI w D B ob tb k m G ow tm now A vq wr' tag := by
  have hS : StepR tag tag w.heap.size 50 50 wr wr' := stepR_new tag w.heap.size 50 50 h.run.below.size hb
  exact ⟨h.run.side hS (by decide), h.told, h.a1.step hS (by decide), h.a2.step hS (by decide), h.row.step hS (by decide)⟩

/-- The memory alone. -/
def P4 (w : World) (D B ob tb k : Nat) (m : Bm) (G : List Tr) (ow tm : Nat → Int) (A : List Sp) (vq : Value) (wr : World) (tag : Nat → Nat) : Prop :=
  Run w 400 D B k m G wr tag ∧ Arr wr tag w.heap.size ob 656 ow ∧ Arr wr tag w.heap.size tb 672 tm ∧ AskR wr tag w.heap.size vq A

theorem TI.p4 (h : TI w D B ob tb k m G ow tm now A vq wr tag) : P4 w D B ob tb k m G ow tm A vq wr tag := ⟨h.run, h.a1, h.a2, h.row⟩

theorem P4.step {lo hi : Nat} (h : P4 w D B ob tb k m G ow tm A vq wr tag) (hS : StepR tag tag' w.heap.size lo hi wr wr') (h1 : 4 ≤ lo) (h2 : hi < 40 ∨ 42 < lo) : P4 w D B ob tb k m G ow tm A vq wr' tag' :=
  ⟨h.1.side hS h1, h.2.1.step hS (by omega), h.2.2.1.step hS (by omega), h.2.2.2.step hS (by omega)⟩

theorem P4.fresh (h : P4 w D B ob tb k m G ow tm A vq wr tag) (hb : Below wr.heap.size wr wr') : P4 w D B ob tb k m G ow tm A vq wr' tag :=
  h.step (stepR_new tag w.heap.size 50 50 h.1.below.size hb) (by decide) (by decide)

/-- One more is asked for, in a region that draws its order. -/
theorem P4.push (h : P4 w D B ob tb k m G ow tm A vq wr tag) (hl : A.length ≤ 900000) (s : Sp) :
    ∃ a c a5 c5 w5 tag5, vq = .slice a A.length c ∧ (Builtin.append_ #[57, 57] 57 #[.slice a A.length c, .slice (some ⟨wr.heap.size, 0, none⟩) 1 1]).run Tryz.prog (wr.alloc (.cells #[.int .u32 s.sub, .int .u32 s.addr, .int .i64 s.block, .int .i64 s.frm, .int .i64 s.til, .bool s.opn] 59)) = .ok (.slice a5 (A.length + 1) c5) w5 ∧
      P4 w D B ob tb k m G ow tm (A ++ [s]) (.slice a5 (A.length + 1) c5) w5 tag5 := by
  obtain ⟨a, c, a5, c5, w5, tag5, e1, e2, e3, hS⟩ := h.2.2.2.push h.1.below.size hl s
  exact ⟨a, c, a5, c5, w5, tag5, e1, e2, h.1.side hS (by decide), h.2.1.step hS (by decide), h.2.2.1.step hS (by decide), e3⟩

end

end Go.Proofs.YtafkkehcacdodaaGreat
