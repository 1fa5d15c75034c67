/- trace.mark: a tree of runs. -/
import Derived.Test.YtkkcpofaiocjpabTraRunRow
import Derived.Test.YtkkcpofaiocjpabTraStep
set_option maxRecDepth 100000
namespace Go.Proofs.Ytkkcpofaiocjpab
open Go.RowKit Go.Shelf

/-- The runs in block g, from its head on. -/
def RuF (w : World) (g N : Nat) (F : Nat → Ru) : Prop :=
  (∀ j, j < N → w.cell? ⟨g, j * 4, none⟩ = some (.int .u32 (F j).sub) ∧ w.cell? ⟨g, j * 4 + 1, none⟩ = some (.int .i64 (F j).frm) ∧ w.cell? ⟨g, j * 4 + 2, none⟩ = some (.int .i64 (F j).til) ∧ w.cell? ⟨g, j * 4 + 3, none⟩ = some (.int .i64 (F j).lat)) ∧
  ∀ k, w.frozen? ⟨g, k, none⟩ = false

theorem RuF.same {w w' : World} {g N : Nat} {F : Nat → Ru} (h : RuF w g N F) (e : w'.heap[g]? = w.heap[g]?) : RuF w' g N F := by
  refine ⟨fun j hj => ?_, fun k => ?_⟩
  · obtain ⟨h1, h2, h3, h4⟩ := h.1 j hj
    exact ⟨(cell_same_block e).trans h1, (cell_same_block e).trans h2, (cell_same_block e).trans h3, (cell_same_block e).trans h4⟩
  · have := h.2 k
    unfold World.frozen? at this ⊢
    rw [e]; exact this

/-- A root is marked. -/
theorem RuF.mark {w : World} {g N : Nat} {F : Nat → Ru} (h : RuF w g N F) (i : Nat) (hi : i < N) (x : Int) : RuF (w.setCell ⟨g, i * 4 + 3, none⟩ (.int .i64 x)) g N (fun j => if j = i then { F i with lat := x } else F j) := by
  refine ⟨fun j hj => ?_, fun k => (World.frozen?_setCell ..).trans (h.2 k)⟩
  obtain ⟨h1, h2, h3, h4⟩ := h.1 j hj
  have ho : ∀ k, k ≠ i * 4 + 3 → (w.setCell ⟨g, i * 4 + 3, none⟩ (.int .i64 x)).cell? ⟨g, k, none⟩ = w.cell? ⟨g, k, none⟩ := fun k hk => World.cell?_setCell_other _ _ _ _ (fun e => hk (congrArg Addr.off e).symm)
  by_cases e : j = i
  · subst e
    simp only [if_true]
    exact ⟨by rw [ho _ (by omega)]; exact h1, by rw [ho _ (by omega)]; exact h2, by rw [ho _ (by omega)]; exact h3, World.cell?_setCell_same _ _ _ h4⟩
  · simp only [if_neg e]
    exact ⟨by rw [ho _ (by omega)]; exact h1, by rw [ho _ (by omega)]; exact h2, by rw [ho _ (by omega)]; exact h3, by rw [ho _ (by omega)]; exact h4⟩

/-- What a mark leaves as it was. -/
def SameRu (F F' : Nat → Ru) : Prop := ∀ j, (F' j).sub = (F j).sub ∧ (F' j).frm = (F j).frm ∧ (F' j).til = (F j).til

theorem enters_mark : ∀ (args : Array Value) (w : World), (callFunc 14 args).run Try.prog w = .ok (.enter 14 args) w := enters_of Try.func14 (by kernel_rfl) rfl

theorem SameRu.trans {F F' F'' : Nat → Ru} (h : SameRu F F') (h' : SameRu F' F'') : SameRu F F'' := fun j => ⟨(h' j).1.trans (h j).1, (h' j).2.1.trans (h j).2.1, (h' j).2.2.trans (h j).2.2⟩

def MarkPost (w w' : World) (g N lo n : Nat) (F : Nat → Ru) (x : Int) (F' : Nat → Ru) : Prop :=
  (∀ j, lo ≤ j → j < lo + n → (F j).til ≤ x) ∧ SameRu F F' ∧ (∀ j, j < lo ∨ lo + n ≤ j → F' j = F j) ∧ Tops F' lo n ∧ RuF w' g N F' ∧ w.grownBy w' (some g)

theorem MarkPost.nil {w w' : World} {g N lo lo' : Nat} {F F' : Nat → Ru} {x : Int} (h : MarkPost w w' g N lo 0 F x F') : MarkPost w w' g N lo' 0 F x F' :=
  ⟨fun j h1 h2 => by omega, h.2.1, fun j _ => h.2.2.1 j (by omega), tops_zero _ _, h.2.2.2.2⟩

theorem MarkPost.row {w w' : World} {g N lo n : Nat} {F F' : Nat → Ru} {x : Int} (h : MarkPost w w' g N lo n F x F') : RuF w' g N F' := h.2.2.2.2.1

theorem mark_root {w w1 w2 : World} {g N lo n m q : Nat} {F F1 F2 : Nat → Ru} {x1 x2 X : Int} (hm : m = n / 2) (hq : q = n - (m + 1)) (hn : n ≠ 0) (hlo : lo + n ≤ N) (h1 : MarkPost w.drew w1 g N lo m F x1 F1) (h2 : MarkPost w1 w2 g N (lo + m + 1) q F1 x2 F2)
    (hX : (F (lo + m)).til ≤ X) (hX1 : x1 ≤ X) (hX2 : x2 ≤ X) : MarkPost w (w2.setCell ⟨g, (lo + m) * 4 + 3, none⟩ (.int .i64 X)) g N lo n F X (fun j => if j = lo + m then { F2 (lo + m) with lat := X } else F2 j) := by
  have hs := h1.2.1.trans h2.2.1
  have hs3 : SameRu F (fun j => if j = lo + m then { F2 (lo + m) with lat := X } else F2 j) := fun j => by
    by_cases e : j = lo + m
    · subst e
      simp only [if_true]
      exact hs (lo + m)
    · simp only [if_neg e]
      exact hs j
  have hb : ∀ j, lo ≤ j → j < lo + n → (F j).til ≤ X := fun j h3 h4 => by
    rcases Nat.lt_trichotomy j (lo + m) with hlt | heq | hgt
    · have := h1.1 j h3 hlt; omega
    · subst heq; exact hX
    · have := h2.1 j (by omega) (by omega)
      rw [(h1.2.1 j).2.2] at this
      omega
  refine ⟨hb, hs3, fun j hj => ?_, ?_, h2.row.mark (lo + m) (by omega) X, ?_⟩
  · have : j ≠ lo + m := by omega
    simp only [if_neg this]
    rw [h2.2.2.1 j (by omega), h1.2.2.1 j (by omega)]
  · rw [tops_iff _ hn, ← hm]
    refine ⟨fun j h3 h4 => ?_, ?_, ?_⟩
    · rw [(hs3 j).2.2]
      simp only [if_true]
      exact hb j h3 h4
    · refine tops_congr m lo (fun j h3 h4 => ?_) h1.2.2.2.1
      have : j ≠ lo + m := by omega
      simp only [if_neg this]
      exact h2.2.2.1 j (by omega)
    · rw [show n - m - 1 = q by omega]
      refine tops_congr q (lo + m + 1) (fun j h3 h4 => ?_) h2.2.2.2.1
      have : j ≠ lo + m := by omega
      simp only [if_neg this]
  · have e0 : w.grownBy w.drew (some g) := ⟨rfl, rfl, rfl, Nat.le_refl _, fun _ _ _ => rfl⟩
    have e3 : w2.grownBy (w2.setCell ⟨g, (lo + m) * 4 + 3, none⟩ (.int .i64 X)) (some g) := ⟨rfl, rfl, rfl, by simp [World.setCell], fun k _ hne => heap_setCell_other w2 ⟨g, (lo + m) * 4 + 3, none⟩ k _ (fun e => hne (by rw [e]))⟩
    exact ((e0.andThen h1.2.2.2.2.2 (fun _ e => .inr e)).andThen h2.2.2.2.2.2 (fun _ e => .inr e)).andThen e3 (fun _ e => .inr e)

set_option maxHeartbeats 4000000 in
theorem mark_ok (g N : Nat) (hN : N ≤ 100000) : ∀ (n lo o cap : Nat) (w : World) (F : Nat → Ru), o = lo * 4 → RuF w g N F → lo + n ≤ N → n ≤ cap →
    Calls Try.prog 14 #[.slice (some ⟨g, o, none⟩) n cap] w fun e w' => ∃ x F', e = .returned (.int .i64 x) ∧ MarkPost w w' g N lo n F x F' := by
  intro n
  induction n using Nat.strongRecOn with
  | _ n ih =>
    intro lo o cap w F ho hF hlo hcap
    by_cases hn : n = 0
    · subst hn
      have HP : Hid (MarkPost w w g N lo 0 F (-9223372036854775808) F) := ⟨fun j h1 h2 => by omega, fun j => ⟨rfl, rfl, rfl⟩, fun j _ => rfl, tops_zero _ _, hF, ⟨rfl, rfl, rfl, Nat.le_refl _, fun _ _ _ => rfl⟩⟩
      clear hF ih
      go_enter Try.func14, Try.ntmps14
      go_wp2
      go_ret
      exact ⟨_, F, rfl, HP.out⟩
    obtain ⟨m, hm⟩ : ∃ m, m = n / 2 := ⟨_, rfl⟩
    obtain ⟨q, hq⟩ : ∃ q, q = n - (m + 1) := ⟨_, rfl⟩
    have hmI : (n : Int) / 2 = (m : Int) := by omega
    have hmn : m < n := by omega
    have hmnI : (m : Int) < (n : Int) := by omega
    have hqI : (n : Int) - ((m : Int) + 1) = (q : Int) := by omega
    have hn0 : ¬ (n : Int) = 0 := by omega
    have hmc : (m : Int) ≤ (cap : Int) := by omega
    have hwm : IntKind.i64.wrap (m : Int) = (m : Int) := IntWalk.i64_in _ (by omega)
    have HL : Hid (∀ w', RuF w' g N F → Calls Try.prog 14 #[.slice (some ⟨g, o, none⟩) m cap] w' fun e w'' => ∃ x F', e = .returned (.int .i64 x) ∧ MarkPost w' w'' g N lo m F x F') := fun w' h => ih m hmn lo o cap w' F ho h (by omega) (by omega)
    have HR : Hid (∀ w' F' oR cR, (q = 0 ∧ oR = o) ∨ oR = o + (m + 1) * 4 → q ≤ cR → RuF w' g N F' → Calls Try.prog 14 #[.slice (some ⟨g, oR, none⟩) q cR] w' fun e w'' => ∃ x F'', e = .returned (.int .i64 x) ∧ MarkPost w' w'' g N (lo + m + 1) q F' x F'') := by
      intro w' F' oR cR hor hqc h
      rcases hor with ⟨h0, rfl⟩ | rfl
      · have := ih q (by omega) lo oR cR w' F' ho h (by omega) hqc
        refine this.mono ?_
        rintro e w'' ⟨x, F'', he, hp⟩
        refine ⟨x, F'', he, ?_⟩
        rw [h0] at hp ⊢
        exact hp.nil
      · exact ih q (by omega) (lo + m + 1) (o + (m + 1) * 4) cR w' F' (by omega) h (by omega) hqc
    have HF : Hid (RuF w g N F) := hF
    have HO : Hid (o = lo * 4 ∧ m = n / 2 ∧ q = n - (m + 1) ∧ lo + n ≤ N) := ⟨ho, hm, hq, hlo⟩
    have c2 : w.cell? ⟨g, o + m * 4 + 2, none⟩ = some (.int .i64 (F (lo + m)).til) := by
      have := (hF.1 (lo + m) (by omega)).2.2.1
      rw [show (lo + m) * 4 + 2 = o + m * 4 + 2 by omega] at this
      exact this
    have hwm1 : IntKind.i64.wrap ((m : Int) + 1) = (m : Int) + 1 := IntWalk.i64_in _ (by omega)
    have hm1 : ((m : Int) + 1).toNat = m + 1 := by omega
    have hm2 : (m : Int) + 1 ≤ (n : Int) := by omega
    have hm3 : (0 : Int) ≤ (m : Int) + 1 := by omega
    have hm4 : (n : Int) ≤ (cap : Int) := by omega
    have hm5 : (m : Int) + 1 ≤ (cap : Int) := by omega
    have HC : Hid (∀ (w' : World) (F' : Nat → Ru), RuF w' g N F' → SameRu F F' → w'.cell? ⟨g, o + m * 4 + 2, none⟩ = some (.int .i64 (F (lo + m)).til) ∧ (∃ u, w'.cell? ⟨g, o + m * 4 + 3, none⟩ = some u) ∧ w'.frozen? ⟨g, o + m * 4 + 3, none⟩ = false) := fun w' F' h hs => by
      have := h.1 (lo + m) (by omega)
      rw [show (lo + m) * 4 + 2 = o + m * 4 + 2 by omega, show (lo + m) * 4 + 3 = o + m * 4 + 3 by omega, (hs (lo + m)).2.2] at this
      exact ⟨this.2.2.1, ⟨_, this.2.2.2⟩, h.2 _⟩
    have hqN : n - (m + 1) = q := hq.symm
    have hqc : q ≤ cap - (m + 1) := by omega
    clear ih hF hq hm ho
    go_enter Try.func14, Try.ntmps14
    go_wp2
    by_cases hce : cap = m + 1
    · subst hce
      obtain rfl : n = m + 1 := by omega
      obtain rfl : q = 0 := by omega
      clear hmI hmnI hqI hmc hm2 hm4 hm5 hqN
      have hmA : (m : Int) ≤ (m : Int) + 1 := by omega
      go_region_law (first
        | (refine step_calls rfl 14 #[.tmp 21] #[47] rfl #[.slice (some ⟨g, o, none⟩) m (m + 1)] (by go_simp) enters_mark (by with_reducible exact HL.out w.drew (HF.out.same rfl)) ?_; rintro e w1 ⟨x1, F1, rfl, hP1⟩; refine ⟨_, rfl, ?_⟩; have HP1 : Hid (MarkPost w.drew w1 g N lo m F x1 F1) := hP1; obtain ⟨d1, -, -⟩ := HC.out w1 F1 hP1.row hP1.2.1; clear hP1)
        | (refine step_calls rfl 14 #[.tmp 26] #[47] rfl #[.slice (some ⟨g, o, none⟩) 0 (0)] (by go_simp) enters_mark (by with_reducible exact HR.out w1 F1 _ _ (.inl ⟨rfl, rfl⟩) (by omega) (MarkPost.row HP1.out)) ?_; rintro e w2 ⟨x2, F2, rfl, hP2⟩; refine ⟨_, rfl, ?_⟩; have HP2 : Hid (MarkPost w1 w2 g N (lo + m + 1) 0 F1 x2 F2) := hP2; obtain ⟨d2, ⟨u3, d3⟩, d4⟩ := HC.out w2 F2 hP2.row (SameRu.trans HP1.out.2.1 hP2.2.1); clear hP2))
      all_goals
        have hX1 : (F (lo + m)).til ≤ (if (if (F (lo + m)).til < x1 then x1 else (F (lo + m)).til) < x2 then x2 else if (F (lo + m)).til < x1 then x1 else (F (lo + m)).til) := by split <;> split <;> omega
        have hX2 : x1 ≤ (if (if (F (lo + m)).til < x1 then x1 else (F (lo + m)).til) < x2 then x2 else if (F (lo + m)).til < x1 then x1 else (F (lo + m)).til) := by split <;> split <;> omega
        have hX3 : x2 ≤ (if (if (F (lo + m)).til < x1 then x1 else (F (lo + m)).til) < x2 then x2 else if (F (lo + m)).til < x1 then x1 else (F (lo + m)).til) := by split <;> split <;> omega
        generalize (if (if (F (lo + m)).til < x1 then x1 else (F (lo + m)).til) < x2 then x2 else if (F (lo + m)).til < x1 then x1 else (F (lo + m)).til) = X at hX1 hX2 hX3 ⊢
        have HP3 : Hid (MarkPost w (w2.setCell ⟨g, o + m * 4 + 3, none⟩ (.int .i64 X)) g N lo (m + 1) F X (fun j => if j = lo + m then { F2 (lo + m) with lat := X } else F2 j)) := by
          rw [show o + m * 4 + 3 = (lo + m) * 4 + 3 by have := HO.out.1; omega]
          exact mark_root HO.out.2.1 HO.out.2.2.1 hn HO.out.2.2.2 HP1.out HP2.out hX1 hX2 hX3
        have d5 : (w2.setCell ⟨g, o + m * 4 + 3, none⟩ (.int .i64 X)).cell? ⟨g, o + m * 4 + 3, none⟩ = some (.int .i64 X) := World.cell?_setCell_same _ _ _ d3
        generalize w2.setCell ⟨g, o + m * 4 + 3, none⟩ (.int .i64 X) = W3 at HP3 d5 ⊢
        clear d1 d2 d3 d4 HP1 HP2 HL HR HC HF c2
        go_wp2
        go_ret
        exact ⟨_, rfl, _, HP3.out⟩
    · clear hmI
      go_region_law (first
        | (refine step_calls rfl 14 #[.tmp 21] #[47] rfl #[.slice (some ⟨g, o, none⟩) m cap] (by go_simp) enters_mark (by with_reducible exact HL.out w.drew (HF.out.same rfl)) ?_; rintro e w1 ⟨x1, F1, rfl, hP1⟩; refine ⟨_, rfl, ?_⟩; have HP1 : Hid (MarkPost w.drew w1 g N lo m F x1 F1) := hP1; obtain ⟨d1, -, -⟩ := HC.out w1 F1 hP1.row hP1.2.1; clear hP1)
        | (refine step_calls rfl 14 #[.tmp 26] #[47] rfl #[.slice (some ⟨g, o + (m + 1) * 4, none⟩) q (cap - (m + 1))] (by go_simp) enters_mark (by with_reducible exact HR.out w1 F1 _ _ (.inr rfl) (by omega) (MarkPost.row HP1.out)) ?_; rintro e w2 ⟨x2, F2, rfl, hP2⟩; refine ⟨_, rfl, ?_⟩; have HP2 : Hid (MarkPost w1 w2 g N (lo + m + 1) q F1 x2 F2) := hP2; obtain ⟨d2, ⟨u3, d3⟩, d4⟩ := HC.out w2 F2 hP2.row (SameRu.trans HP1.out.2.1 hP2.2.1); clear hP2))
      all_goals
        have hX1 : (F (lo + m)).til ≤ (if (if (F (lo + m)).til < x1 then x1 else (F (lo + m)).til) < x2 then x2 else if (F (lo + m)).til < x1 then x1 else (F (lo + m)).til) := by split <;> split <;> omega
        have hX2 : x1 ≤ (if (if (F (lo + m)).til < x1 then x1 else (F (lo + m)).til) < x2 then x2 else if (F (lo + m)).til < x1 then x1 else (F (lo + m)).til) := by split <;> split <;> omega
        have hX3 : x2 ≤ (if (if (F (lo + m)).til < x1 then x1 else (F (lo + m)).til) < x2 then x2 else if (F (lo + m)).til < x1 then x1 else (F (lo + m)).til) := by split <;> split <;> omega
        generalize (if (if (F (lo + m)).til < x1 then x1 else (F (lo + m)).til) < x2 then x2 else if (F (lo + m)).til < x1 then x1 else (F (lo + m)).til) = X at hX1 hX2 hX3 ⊢
        have HP3 : Hid (MarkPost w (w2.setCell ⟨g, o + m * 4 + 3, none⟩ (.int .i64 X)) g N lo n F X (fun j => if j = lo + m then { F2 (lo + m) with lat := X } else F2 j)) := by
          rw [show o + m * 4 + 3 = (lo + m) * 4 + 3 by have := HO.out.1; omega]
          exact mark_root HO.out.2.1 HO.out.2.2.1 hn HO.out.2.2.2 HP1.out HP2.out hX1 hX2 hX3
        have d5 : (w2.setCell ⟨g, o + m * 4 + 3, none⟩ (.int .i64 X)).cell? ⟨g, o + m * 4 + 3, none⟩ = some (.int .i64 X) := World.cell?_setCell_same _ _ _ d3
        generalize w2.setCell ⟨g, o + m * 4 + 3, none⟩ (.int .i64 X) = W3 at HP3 d5 ⊢
        clear d1 d2 d3 d4 HP1 HP2 HL HR HC HF c2
        go_wp2
        go_ret
        exact ⟨_, rfl, _, HP3.out⟩

end Go.Proofs.Ytkkcpofaiocjpab
