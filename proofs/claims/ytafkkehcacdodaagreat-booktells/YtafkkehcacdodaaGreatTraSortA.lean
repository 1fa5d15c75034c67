/- The library's sort of subscribers: a row as an array; less; the insertion sort. -/
import Derived.Test.YtafkkehcacdodaaGreatTraRows
import Derived.Deep.DrawnRows
import Derived.Sort.WalkA
import Derived.CellFam
import Derived.BigGuard
import Derived.BigCall
import Derived.Deep.QuietTactic
import Derived.BigQuiet
import Derived.BigRegion
set_option maxRecDepth 100000
namespace Go.Proofs.YtafkkehcacdodaaGreat
open Go.RowKit Go.Shelf Go.Sort
attribute [local go_sem ↓] Go.wp_at_zero Go.wp_at_succ

def ltU (x y : Int) : Bool := decide (x < y)

/-- A row of subscribers, as the array that it holds. -/
def UA (w : World) (base g cap : Nat) (d : Array Int) : Prop := w.ownsRow base 38 1 (.slice (some ⟨g, 0, none⟩) d.size cap) d.size (d.toList.map (Value.int .u32))

theorem UA.cell {w : World} {base g cap : Nat} {d : Array Int} (h : UA w base g cap d) {j : Nat} (hj : j < d.size) : w.cell? ⟨g, j, none⟩ = some (.int .u32 d[j]!) := by
  rw [ownsRow_cell h j (by omega), List.getElem?_map, Array.getElem?_toList, Array.getElem?_eq_getElem hj, getElem!_pos d j hj]
  rfl

theorem UA.frozen {w : World} {base g cap : Nat} {d : Array Int} (h : UA w base g cap d) (j : Nat) : w.frozen? ⟨g, j, none⟩ = false := ownsRow_frozen h j

theorem UA.set {w : World} {base g cap : Nat} {d : Array Int} (h : UA w base g cap d) (j : Nat) (x : Int) : UA (w.setCell ⟨g, j, none⟩ (.int .u32 x)) base g cap (d.setIfInBounds j x) := by
  have := ownsRow_set h j (.int .u32 x)
  unfold UA
  rw [Array.size_setIfInBounds, Array.toList_setIfInBounds, List.map_set]
  exact this

theorem UA.drewN {w : World} {base g cap : Nat} {d : Array Int} (h : UA w base g cap d) (n : Nat) : UA (w.drewN n) base g cap d := ownsRow_later h (below_drewN10 w n)

theorem UA.exch {w : World} {base g cap : Nat} {d : Array Int} (h : UA w base g cap d) (i j : Nat) : UA ((w.setCell ⟨g, i, none⟩ (.int .u32 d[j]!)).setCell ⟨g, j, none⟩ (.int .u32 d[i]!)) base g cap (Sort.swp d i j) := (h.set i _).set j _

theorem UA.exch' {w : World} {base g cap : Nat} {d : Array Int} (h : UA w base g cap d) (i j : Nat) (hij : i ≠ j) : UA ((w.setCell ⟨g, j, none⟩ (.int .u32 d[i]!)).setCell ⟨g, i, none⟩ (.int .u32 d[j]!)) base g cap (Sort.swp d i j) := by
  have := (h.set j d[i]!).set i d[j]!
  have e : (d.setIfInBounds j d[i]!).setIfInBounds i d[j]! = Sort.swp d i j := by
    unfold Sort.swp
    rw [Array.setIfInBounds_comm _ _ (by omega)]
  rw [e] at this
  exact this

theorem grown_set {w : World} {g j : Nat} (v : Value) : w.grownBy (w.setCell ⟨g, j, none⟩ v) (some g) :=
  ⟨rfl, rfl, rfl, by simp [World.setCell], fun k _ hne => heap_setCell_other w ⟨g, j, none⟩ k v (fun e => hne (by rw [e]))⟩

theorem nanU_any (x : Int) (W : World) : Calls Tryz.prog 150 #[.int .u32 x] W fun e w' => e = .returned (.bool false) ∧ w' = W := by
  have hx : (x != x) = false := by simp
  go_enter Tryz.func150, Tryz.ntmps150
  go_wp2
  go_ret
  exact ⟨rfl, rfl⟩

theorem less_any (x y : Int) (W : World) : Calls Tryz.prog 136 #[.int .u32 x, .int .u32 y] W fun e w' => e = .returned (.bool (ltU x y)) ∧ w' = W := by
  unfold ltU
  generalize hb : decide (x < y) = b
  go_enter Tryz.func136, Tryz.ntmps136
  go_wp2_with (go_at_call 150; refine (nanU_any _ _).mono ?_; rintro e w' ⟨rfl, rfl⟩)
  go_ret
  exact ⟨by first | rfl | simp [← hb], rfl⟩

theorem grown_refl (w : World) (r : Option Nat) : w.grownBy w r := ⟨rfl, rfl, rfl, Nat.le_refl _, fun _ _ _ => rfl⟩

theorem grown_drewN (w : World) (n : Nat) (r : Option Nat) : w.grownBy (w.drewN n) r := ⟨rfl, rfl, rfl, Nat.le_refl _, fun _ _ _ => rfl⟩

theorem grown_both {w w1 w2 : World} {r : Option Nat} (h : w.grownBy w1 r) (h' : w1.grownBy w2 r) : w.grownBy w2 r :=
  h.andThen h' (fun _ e => .inr e)

/-- Behind: the row holds e, and nothing else of w has turned. -/
def RwU (w wr : World) (base g cap N : Nat) (e : Array Int) : Prop := UA wr base g cap e ∧ e.size = N ∧ w.grownBy wr (some g)

theorem RwU.start {w : World} {base g cap N : Nat} {d : Array Int} (h : UA w base g cap d) (hN : d.size = N) : RwU w w base g cap N d := ⟨h, hN, grown_refl _ _⟩

theorem RwU.fam {w wr : World} {base g cap N : Nat} {d : Array Int} (h : RwU w wr base g cap N d) {G : Nat → Int} (hG : ∀ t, G t = d[t]!) : (∀ t, t < N → wr.cell? ⟨g, t, none⟩ = some (.int .u32 (G t))) ∧ (∀ t, t < N → wr.frozen? ⟨g, t, none⟩ = false) :=
  ⟨fun t ht => by rw [h.1.cell (by have := h.2.1; omega), hG], fun t _ => h.1.frozen t⟩

theorem swp_size (d : Array Int) (i j : Nat) : (Sort.swp d i j).size = d.size := by unfold Sort.swp; simp

theorem RwU.drew {w wr : World} {base g cap N : Nat} {d : Array Int} (h : RwU w wr base g cap N d) (q : Nat) : RwU w (wr.drewN q) base g cap N d :=
  ⟨h.1.drewN q, h.2.1, grown_both h.2.2 (grown_drewN _ _ _)⟩

theorem RwU.swap {w wr : World} {base g cap N : Nat} {d : Array Int} (h : RwU w wr base g cap N d) (q : Nat) {G : Nat → Int} (hG : ∀ t, G t = d[t]!) (i j : Nat) :
    RwU w (((wr.drewN q).setCell ⟨g, i, none⟩ (.int .u32 (G j))).setCell ⟨g, j, none⟩ (.int .u32 (G i))) base g cap N (Sort.swp d i j) := by
  refine ⟨?_, by rw [swp_size]; exact h.2.1, grown_both h.2.2 (grown_both (grown_drewN _ q _) (grown_both (grown_set _) (grown_set _)))⟩
  rw [hG, hG]
  exact (h.1.drewN q).exch i j

theorem RwU.recell {w wr : World} {base g cap N : Nat} {d : Array Int} (h : RwU w wr base g cap N d) (i x : Nat) (v : Int) (hx : x < N) : ∃ u, (wr.setCell ⟨g, i, none⟩ (.int .u32 v)).cell? ⟨g, x, none⟩ = some u :=
  ⟨_, (h.1.set i v).cell (by have := h.2.1; simp; omega)⟩

theorem RwU.call {w wr w' : World} {base g cap N : Nat} {d e : Array Int} (h : RwU w wr base g cap N d) (h' : RwU wr w' base g cap N e) : RwU w w' base g cap N e :=
  ⟨h'.1, h'.2.1, grown_both h.2.2 h'.2.2⟩

set_option maxHeartbeats 8000000 in
theorem insertion_ok (w : World) (base g cap N : Nat) (d : Array Int) (a b : Nat) (h : UA w base g cap d) (hN : d.size = N) (hab : a ≤ b) (hb : b ≤ N) (hd : N ≤ 100000) :
    Calls Tryz.prog 130 #[.slice (some ⟨g, 0, none⟩) N cap, .int .i64 a, .int .i64 b] w fun e w' => e = .returned (.tuple #[]) ∧ RwU w w' base g cap N (insertionSort ltU d a b) := by
  have HR : Hid (RwU w w base g cap N d) := RwU.start h hN
  have HO0 : Hid (insertionSort ltU d a b = insOuter ltU a b (a + 1) d) := rfl
  clear h hN
  go_enter Tryz.func130, Tryz.ntmps130
  go_wp2
  go_loopg [6] (b - a) (fun gk iv wr => ∃ (i : Nat) (d' : Array Int), i + gk = b + 1 ∧ a < i ∧ iv = .int .i64 (i : Int) ∧ RwU w wr base g cap N d' ∧ Hid (insOuter ltU a b i d' = insOuter ltU a b (a + 1) d))
  case atStart => exact ⟨a + 1, d, by omega, by omega, by go_num, HR.out, rfl⟩
  case round =>
    obtain ⟨i, d', hi, hai, rfl, hu, ho⟩ := hrel
    have HU' : Hid (RwU w wr base g cap N d') := hu
    clear hu
    by_cases hlt : i < b
    case neg =>
      have hge : ¬ ((i : Int) < (b : Int)) := by omega
      have HE : Hid (d' = insertionSort ltU d a b) := by show _ = _; rw [HO0.out, ← ho.out, insOuter_stop _ _ _ _ _ hlt]
      clear hlt
      go_wp2
      refine bodyPost_end (results_none rfl _ _ _) rfl ?_
      exact ⟨rfl, by rw [← HE.out]; exact HU'.out⟩
    have hibI : (i : Int) < (b : Int) := by omega
    go_wp2
    go_loopg [7] i (fun gk jv wr => ∃ (j : Nat) (e : Array Int), j = gk ∧ j ≤ i ∧ a ≤ j ∧ jv = .int .i64 (j : Int) ∧ RwU w wr base g cap N e ∧ Hid (insInner ltU a j e = insInner ltU a i d'))
    case atStart => exact ⟨i, d', rfl, Nat.le_refl _, by omega, rfl, HU'.out, rfl⟩
    case round =>
      obtain ⟨j, e, rfl, hji, haj, rfl, hue, hie⟩ := hrel
      obtain ⟨G, hG⟩ : ∃ G : Nat → Int, ∀ t, G t = e[t]! := ⟨fun t => e[t]!, fun _ => rfl⟩
      obtain ⟨hcw, hfw⟩ := hue.fam hG
      have HUe : Hid (RwU w wr base g cap N e) := hue
      have HG' : Hid (∀ t, G t = e[t]!) := hG
      have HOut : Hid ((j ≤ a ∨ ltU (G j) (G (j - 1)) = false) → insOuter ltU a b (i + 1) e = insOuter ltU a b (a + 1) d) := fun hs => by
        rw [← ho.out, insOuter_go _ _ _ _ _ hlt, ← hie.out, insInner_stop _ _ _ _ (by rw [← hG, ← hG]; exact hs)]
      have HGo : Hid (a < j → ltU (G j) (G (j - 1)) = true → insInner ltU a (j - 1) (Sort.swp e j (j - 1)) = insInner ltU a i d') := fun hja hl => by
        rw [← hie.out, insInner_go _ _ _ _ hja (by rw [← hG, ← hG]; exact hl)]
      clear hue hG hie ho
      have hjN : (j : Int) < (N : Int) := by omega
      go_wp2
      by_cases hja : a < j
      · have hj1 : ((j : Int) - 1).toNat = j - 1 := by omega
        have hj0 : (0 : Int) ≤ (j : Int) - 1 := by omega
        have hj2 : (j : Int) - 1 < (N : Int) := by omega
        have hjn : j < N := by omega
        have hkn : j - 1 < N := by omega
        have hne : j ≠ j - 1 := by omega
        have hne' : j - 1 ≠ j := by omega
        go_quiet (first | (go_at_call 136; refine Calls.quiet_of_same (less_any _ _ _)))
        go_wp2
        · have hl : ltU (G j) (G (j - 1)) = true := by assumption
          go_region
          all_goals go_wp2
          go_roundg (j - 1)
          case rel => exact ⟨j - 1, Sort.swp e j (j - 1), rfl, by omega, by omega, by congr 1; omega, HUe.out.swap _ HG'.out _ _, HGo.out hja hl⟩
          case measure => omega
        · have hl : ltU (G j) (G (j - 1)) = false := by assumption
          go_roundg (b + 1 - (i + 1))
          case rel => exact ⟨i + 1, e, by omega, by omega, by go_num, HUe.out.drew _, HOut.out (.inr hl)⟩
          case measure => omega
      · go_quiet (first | (go_at_call 136; refine Calls.quiet_of_same (less_any _ _ _)))
        go_wp2
        go_roundg (b + 1 - (i + 1))
        case rel => exact ⟨i + 1, e, by omega, by omega, by go_num, HUe.out.drew _, HOut.out (.inl (by omega))⟩
        case measure => omega

end Go.Proofs.YtafkkehcacdodaaGreat
