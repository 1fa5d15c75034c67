/- subs, fair, Same: two lists that are one. -/
import Derived.Test.YtafkkehcacdodaaGreatTraSmall
import Derived.Laws.StructEq
import Derived.Deep.DrawnRows
set_option maxRecDepth 100000
namespace Go.Proofs.YtafkkehcacdodaaGreat
open Go.RowKit
attribute [local go_sem ↓] Go.wp_at_zero Go.wp_at_succ

theorem below_drewN10 (w : World) (n : Nat) : Below w.heap.size w (w.drewN n) := ⟨rfl, rfl, rfl, Nat.le_refl _, fun _ _ => rfl⟩

/-- Subscribers that a slice shows. -/
def Us (w : World) (v : Value) (B O : Nat) (l : List Int) : Prop :=
  ∃ (a : Option Addr) (cap : Nat), v = .slice a l.length cap ∧ l.length ≤ cap ∧ cap ≤ maxLen ∧ (a = some ⟨B, O, none⟩ ∨ l = []) ∧ ∀ i, i < l.length → w.cell? ⟨B, O + i, none⟩ = some (.int .u32 (l.getD i 0))

theorem Us.later {w w' : World} {v : Value} {B O : Nat} {l : List Int} (h : Us w v B O l) (hb : Below w.heap.size w w') : Us w' v B O l := by
  obtain ⟨a, cap, h1, h2, h3, h4, h5⟩ := h
  exact ⟨a, cap, h1, h2, h3, h4, fun i hi => cell_later hb (h5 i hi)⟩

abbrev URow (w : World) (base : Nat) (v : Value) (l : List Int) : Prop := w.ownsRow base 38 1 v l.length (l.map (Value.int .u32))

theorem uRow_us {w : World} {base : Nat} {v : Value} {l : List Int} (h : URow w base v l) : ∃ B, Us w v B 0 l := by
  rcases h.2 with ⟨hv, h0⟩ | ⟨g, cap, cur, hv, h1, h2, h3, h4, h5, h6⟩
  · have : l = [] := List.eq_nil_of_length_eq_zero h0
    subst this
    exact ⟨0, none, 0, hv, by simp, by decide, .inr rfl, fun i hi => by simp at hi⟩
  · refine ⟨g, _, cap, hv, h3, h4, .inl rfl, fun i hi => ?_⟩
    rw [hv] at h
    rw [Nat.zero_add, ownsRow_cell h i (by omega)]
    simp [List.getD, List.getElem?_eq_getElem hi]

theorem eqSp (s : Sp) (w : World) : (binOp .neq 59 (spV s) (spV s)).run Tryz.prog w = .ok (.bool false) w := by
  have hS : Tryz.prog.underlying 59 = some (.struct (Tryz.prog.fieldsOf 59)) := by kernel_rfl
  have hp : Tryz.prog.stoodInHeld 59 = false := by kernel_rfl
  have u3 := Tryz.underlying3
  have a3 := Tryz.isAgg3
  have z3 := Tryz.sizeOf3
  have u2 := Tryz.underlying2
  have a2 := Tryz.isAgg2
  have z2 := Tryz.sizeOf2
  have u4 := Tryz.underlying4
  have a4 := Tryz.isAgg4
  have z4 := Tryz.sizeOf4
  have uU := Tryz.underlying38
  have aU := Tryz.isAgg38
  have zU := Tryz.sizeOf38
  rw [run_neq_struct, show (10000 : Nat) = 9999 + 1 from rfl, run_equalIn_agg w 9999 59 _ _ hS hp]
  simp only [Program.fieldsOf, Tryz.underlying59]
  go_simp

theorem guardSp (op : BinOp) (x y : Operand) (xs ys : Array Value) (w : World) : (eqGuard op 59 x y (.agg xs) (.agg ys)).run Tryz.prog w = .ok () w :=
  run_eqGuard_agg w op 59 x y xs ys (by kernel_rfl)

set_option maxHeartbeats 4000000 in
/-- The lists are one. -/
theorem same10_ok (w : World) (v v' : Value) (B O B' O' : Nat) (l : List Sp) (h : Sps w v B O l) (h' : Sps w v' B' O' l) :
    Calls Tryz.prog 56 #[v, v'] w fun e w' => e = .returned (.bool true) ∧ ∃ nq, w' = w.drewN nq := by
  obtain ⟨a1, d1, rfl, g1, g2, g3, g4⟩ := h
  obtain ⟨a2, d2, rfl, f1, f2, f3, f4⟩ := h'
  have G4 : Hid (∀ i s, l[i]? = some s → SpAt w B (O + i * 6) s) := g4
  have F4 : Hid (∀ i s, l[i]? = some s → SpAt w B' (O' + i * 6) s) := f4
  unfold maxLen at g2 f2
  clear g4 f4
  go_enter Tryz.func56, Tryz.ntmps56
  go_wp2
  go_loopg [5] l.length (fun gk i wr => ∃ (k nq : Nat), k + gk = l.length ∧ i = .int .i64 k ∧ wr = w.drewN nq)
  case atStart => exact ⟨0, 0, by omega, rfl, rfl⟩
  case round =>
    obtain ⟨k, nq, hk, rfl, rfl⟩ := hrel
    by_cases hlt : k < l.length
    case neg =>
      have hge : ¬ (k : Int) < (l.length : Int) := by omega
      go_wp2
      go_ret
      exact ⟨rfl, nq, rfl⟩
    have hltI : (k : Int) < (l.length : Int) := by omega
    obtain rfl : a1 = some ⟨B, O, none⟩ := by
      rcases g3 with g3 | g3
      · exact g3
      · subst g3; simp at hlt
    obtain rfl : a2 = some ⟨B', O', none⟩ := by
      rcases f3 with f3 | f3
      · exact f3
      · subst f3; simp at hlt
    obtain ⟨s, hs⟩ : ∃ s, l[k]? = some s := ⟨_, List.getElem?_eq_getElem hlt⟩
    have c1' := spAt_later (G4.out k s hs) (below_drewN10 w nq)
    have c2' := spAt_later (F4.out k s hs) (below_drewN10 w nq)
    clear hs
    obtain ⟨wx, hwx⟩ : ∃ x, x = w.drewN nq := ⟨_, rfl⟩
    rw [← hwx] at c1' c2' ⊢
    have HWX : Hid (wx = w.drewN nq) := hwx
    clear hwx
    have hne := eqSp s
    have hgd := guardSp
    obtain ⟨s0, s1, s2, s3, s4, s5⟩ := s
    obtain ⟨p0, p1, p2, p3, p4, p5⟩ := c1'
    obtain ⟨q0, q1, q2, q3, q4, q5⟩ := c2'
    simp only at p0 p1 p2 p3 p4 p5 q0 q1 q2 q3 q4 q5 hne
    go_wp2_with fail
    go_quiet (fail)
    rename_i nq2
    go_wp2
    go_roundg (l.length - (k + 1))
    case rel => exact ⟨k + 1, _, by omega, by go_num, by rw [HWX.out, World.drewN_drewN]⟩
    case measure => omega

/-! ### Entries -/
abbrev EnAt (w : World) (b o : Nat) (e : En) : Prop :=
  w.cell? ⟨b, o, none⟩ = some (.int .i64 e.kind) ∧ w.cell? ⟨b, o + 1, none⟩ = some (.int .i64 e.time) ∧ w.cell? ⟨b, o + 2, none⟩ = some (.int .u32 e.sub) ∧ w.cell? ⟨b, o + 3, none⟩ = some (.int .u32 e.addr) ∧ w.cell? ⟨b, o + 4, none⟩ = some (.int .i64 e.block)

/-- A list of entries that a slice shows. -/
def Ens (w : World) (v : Value) (B O : Nat) (l : List En) : Prop :=
  ∃ (a : Option Addr) (cap : Nat), v = .slice a l.length cap ∧ l.length ≤ cap ∧ cap ≤ maxLen ∧ (a = some ⟨B, O, none⟩ ∨ l = []) ∧ ∀ i e, l[i]? = some e → EnAt w B (O + i * 5) e

theorem enAt_later {w w' : World} {b o : Nat} {e : En} (h : EnAt w b o e) (hb : Below w.heap.size w w') : EnAt w' b o e :=
  ⟨cell_later hb h.1, cell_later hb h.2.1, cell_later hb h.2.2.1, cell_later hb h.2.2.2.1, cell_later hb h.2.2.2.2⟩

theorem Ens.later {w w' : World} {v : Value} {B O : Nat} {l : List En} (h : Ens w v B O l) (hb : Below w.heap.size w w') : Ens w' v B O l := by
  obtain ⟨a, cap, h1, h2, h3, h4, h5⟩ := h
  exact ⟨a, cap, h1, h2, h3, h4, fun i s hs => enAt_later (h5 i s hs) hb⟩

/-- Entries few, their Times not at the least end of numbers. -/
def fairB (l : List En) : Bool := decide (l.length ≤ 300) && l.all (fun e => decide (-4611686018427387904 ≤ e.time))

end Go.Proofs.YtafkkehcacdodaaGreat
