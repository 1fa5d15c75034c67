/- The library's sort of subscribers: a row as an array; less; the insertion sort. -/
import Derived.Test.YtafkkehcacdodaaGreatM24
import Derived.Deep.DrawnRows
import Derived.Sort.WalkA
import Derived.CellFam
import Derived.BigGuard
import Derived.BigCall
import Derived.Deep.QuietTactic
import Derived.BigQuiet
import Derived.BigRegion
set_option maxRecDepth 100000
namespace Go.Proofs.YtafkkehcacdodaaGreat
open Go.RowKit Go.Shelf Go.Sort
attribute [local go_sem ↓] Go.wp_at_zero Go.wp_at_succ

def ltU (x y : Int) : Bool := decide (x < y)

/-- A row of subscribers, as the array that it holds. -/
def UA (w : World) (base g cap : Nat) (d : Array Int) : Prop := w.ownsRow base 38 1 (.slice (some ⟨g, 0, none⟩) d.size cap) d.size (d.toList.map (Value.int .u32))

theorem UA.cell {w : World} {base g cap : Nat} {d : Array Int} (h : UA w base g cap d) {j : Nat} (hj : j < d.size) : w.cell? ⟨g, j, none⟩ = some (.int .u32 d[j]!) := by
  rw [ownsRow_cell h j (by omega), List.getElem?_map, Array.getElem?_toList, Array.getElem?_eq_getElem hj, getElem!_pos d j hj]
  rfl

theorem UA.frozen {w : World} {base g cap : Nat} {d : Array Int} (h : UA w base g cap d) (j : Nat) : w.frozen? ⟨g, j, none⟩ = false := ownsRow_frozen h j

theorem UA.set {w : World} {base g cap : Nat} {d : Array Int} (h : UA w base g cap d) (j : Nat) (x : Int) : UA (w.setCell ⟨g, j, none⟩ (.int .u32 x)) base g cap (d.setIfInBounds j x) := by
  have := ownsRow_set h j (.int .u32 x)
  unfold UA
  rw [Array.size_setIfInBounds, Array.toList_setIfInBounds, List.map_set]
  exact this

theorem UA.drewN {w : World} {base g cap : Nat} {d : Array Int} (h : UA w base g cap d) (n : Nat) : UA (w.drewN n) base g cap d := ownsRow_later h (below_drewN10 w n)

theorem UA.exch {w : World} {base g cap : Nat} {d : Array Int} (h : UA w base g cap d) (i j : Nat) : UA ((w.setCell ⟨g, i, none⟩ (.int .u32 d[j]!)).setCell ⟨g, j, none⟩ (.int .u32 d[i]!)) base g cap (Sort.swp d i j) := (h.set i _).set j _

theorem UA.exch' {w : World} {base g cap : Nat} {d : Array Int} (h : UA w base g cap d) (i j : Nat) (hij : i ≠ j) : UA ((w.setCell ⟨g, j, none⟩ (.int .u32 d[i]!)).setCell ⟨g, i, none⟩ (.int .u32 d[j]!)) base g cap (Sort.swp d i j) := by
  have := (h.set j d[i]!).set i d[j]!
  have e : (d.setIfInBounds j d[i]!).setIfInBounds i d[j]! = Sort.swp d i j := by
    unfold Sort.swp
    rw [Array.setIfInBounds_comm _ _ (by omega)]
  rw [e] at this
  exact this

theorem grown_set {w : World} {g j : Nat} (v : Value) : w.grownBy (w.setCell ⟨g, j, none⟩ v) (some g) :=
  ⟨rfl, rfl, rfl, by simp [World.setCell], fun k _ hne => heap_setCell_other w ⟨g, j, none⟩ k v (fun e => hne (by rw [e]))⟩

theorem nanU_any (x : Int) (W : World) : Calls Tryz.prog 150 #[.int .u32 x] W fun e w' => e = .returned (.bool false) ∧ w' = W := by
  have hx : (x != x) = false := by simp
  go_enter Tryz.func150, Tryz.ntmps150
  go_wp2
  go_ret
  exact ⟨rfl, rfl⟩

theorem less_any (x y : Int) (W : World) : Calls Tryz.prog 136 #[.int .u32 x, .int .u32 y] W fun e w' => e = .returned (.bool (ltU x y)) ∧ w' = W := by
  unfold ltU
  generalize hb : decide (x < y) = b
  go_enter Tryz.func136, Tryz.ntmps136
  go_wp2_with (go_at_call 150; refine (nanU_any _ _).mono ?_; rintro e w' ⟨rfl, rfl⟩)
  go_ret
  exact ⟨by first | rfl | simp [← hb], rfl⟩

theorem grown_refl (w : World) (r : Option Nat) : w.grownBy w r := ⟨rfl, rfl, rfl, Nat.le_refl _, fun _ _ _ => rfl⟩

theorem grown_drewN (w : World) (n : Nat) (r : Option Nat) : w.grownBy (w.drewN n) r := ⟨rfl, rfl, rfl, Nat.le_refl _, fun _ _ _ => rfl⟩

theorem grown_both {w w1 w2 : World} {r : Option Nat} (h : w.grownBy w1 r) (h' : w1.grownBy w2 r) : w.grownBy w2 r :=
  h.andThen h' (fun _ e => .inr e)

/-- Behind: the row holds e, and nothing else of w has turned. -/
def RwU (w wr : World) (base g cap N : Nat) (e : Array Int) : Prop := UA wr base g cap e ∧ e.size = N ∧ w.grownBy wr (some g)

theorem RwU.start {w : World} {base g cap N : Nat} {d : Array Int} (h : UA w base g cap d) (hN : d.size = N) : RwU w w base g cap N d := ⟨h, hN, grown_refl _ _⟩

theorem RwU.fam {w wr : World} {base g cap N : Nat} {d : Array Int} (h : RwU w wr base g cap N d) {G : Nat → Int} (hG : ∀ t, G t = d[t]!) : (∀ t, t < N → wr.cell? ⟨g, t, none⟩ = some (.int .u32 (G t))) ∧ (∀ t, t < N → wr.frozen? ⟨g, t, none⟩ = false) :=
  ⟨fun t ht => by rw [h.1.cell (by have := h.2.1; omega), hG], fun t _ => h.1.frozen t⟩

theorem swp_size (d : Array Int) (i j : Nat) : (Sort.swp d i j).size = d.size := by unfold Sort.swp; simp

theorem RwU.drew {w wr : World} {base g cap N : Nat} {d : Array Int} (h : RwU w wr base g cap N d) (q : Nat) : RwU w (wr.drewN q) base g cap N d :=
  ⟨h.1.drewN q, h.2.1, grown_both h.2.2 (grown_drewN _ _ _)⟩

theorem RwU.swap {w wr : World} {base g cap N : Nat} {d : Array Int} (h : RwU w wr base g cap N d) (q : Nat) {G : Nat → Int} (hG : ∀ t, G t = d[t]!) (i j : Nat) :
    RwU w (((wr.drewN q).setCell ⟨g, i, none⟩ (.int .u32 (G j))).setCell ⟨g, j, none⟩ (.int .u32 (G i))) base g cap N (Sort.swp d i j) := by
  refine ⟨?_, by rw [swp_size]; exact h.2.1, grown_both h.2.2 (grown_both (grown_drewN _ q _) (grown_both (grown_set _) (grown_set _)))⟩
  rw [hG, hG]
  exact (h.1.drewN q).exch i j

theorem RwU.recell {w wr : World} {base g cap N : Nat} {d : Array Int} (h : RwU w wr base g cap N d) (i x : Nat) (v : Int) (hx : x < N) : ∃ u, (wr.setCell ⟨g, i, none⟩ (.int .u32 v)).cell? ⟨g, x, none⟩ = some u :=
  ⟨_, (h.1.set i v).cell (by have := h.2.1; simp; omega)⟩

theorem RwU.call {w wr w' : World} {base g cap N : Nat} {d e : Array Int} (h : RwU w wr base g cap N d) (h' : RwU wr w' base g cap N e) : RwU w w' base g cap N e :=
  ⟨h'.1, h'.2.1, grown_both h.2.2 h'.2.2⟩

set_option maxHeartbeats 8000000 in
theorem insertion_ok (w : World) (base g cap N : Nat) (d : Array Int) (a b : Nat) (h : UA w base g cap d) (hN : d.size = N) (hab : a ≤ b) (hb : b ≤ N) (hd : N ≤ 100000) :
    Calls Tryz.prog 130 #[.slice (some ⟨g, 0, none⟩) N cap, .int .i64 a, .int .i64 b] w fun e w' => e = .returned (.tuple #[]) ∧ RwU w w' base g cap N (insertionSort ltU d a b) := by
  have HR : Hid (RwU w w base g cap N d) := RwU.start h hN
  have HO0 : Hid (insertionSort ltU d a b = insOuter ltU a b (a + 1) d) := rfl
  clear h hN
  go_enter Tryz.func130, Tryz.ntmps130
  go_wp2
  go_loopg [6] (b - a) (fun gk iv wr => ∃ (i : Nat) (d' : Array Int), i + gk = b + 1 ∧ a < i ∧ iv = .int .i64 (i : Int) ∧ RwU w wr base g cap N d' ∧ Hid (insOuter ltU a b i d' = insOuter ltU a b (a + 1) d))
  case atStart => exact ⟨a + 1, d, by omega, by omega, by go_num, HR.out, rfl⟩
  case round =>
    obtain ⟨i, d', hi, hai, rfl, hu, ho⟩ := hrel
    have HU' : Hid (RwU w wr base g cap N d') := hu
    clear hu
    by_cases hlt : i < b
    case neg =>
      have hge : ¬ ((i : Int) < (b : Int)) := by omega
      have HE : Hid (d' = insertionSort ltU d a b) := by show _ = _; rw [HO0.out, ← ho.out, insOuter_stop _ _ _ _ _ hlt]
      clear hlt
      go_wp2
      refine bodyPost_end (results_none rfl _ _ _) rfl ?_
      exact ⟨rfl, by rw [← HE.out]; exact HU'.out⟩
    have hibI : (i : Int) < (b : Int) := by omega
    go_wp2
    go_loopg [7] i (fun gk jv wr => ∃ (j : Nat) (e : Array Int), j = gk ∧ j ≤ i ∧ a ≤ j ∧ jv = .int .i64 (j : Int) ∧ RwU w wr base g cap N e ∧ Hid (insInner ltU a j e = insInner ltU a i d'))
    case atStart => exact ⟨i, d', rfl, Nat.le_refl _, by omega, rfl, HU'.out, rfl⟩
    case round =>
      obtain ⟨j, e, rfl, hji, haj, rfl, hue, hie⟩ := hrel
      obtain ⟨G, hG⟩ : ∃ G : Nat → Int, ∀ t, G t = e[t]! := ⟨fun t => e[t]!, fun _ => rfl⟩
      obtain ⟨hcw, hfw⟩ := hue.fam hG
      have HUe : Hid (RwU w wr base g cap N e) := hue
      have HG' : Hid (∀ t, G t = e[t]!) := hG
      have HOut : Hid ((j ≤ a ∨ ltU (G j) (G (j - 1)) = false) → insOuter ltU a b (i + 1) e = insOuter ltU a b (a + 1) d) := fun hs => by
        rw [← ho.out, insOuter_go _ _ _ _ _ hlt, ← hie.out, insInner_stop _ _ _ _ (by rw [← hG, ← hG]; exact hs)]
      have HGo : Hid (a < j → ltU (G j) (G (j - 1)) = true → insInner ltU a (j - 1) (Sort.swp e j (j - 1)) = insInner ltU a i d') := fun hja hl => by
        rw [← hie.out, insInner_go _ _ _ _ hja (by rw [← hG, ← hG]; exact hl)]
      clear hue hG hie ho
      have hjN : (j : Int) < (N : Int) := by omega
      go_wp2
      by_cases hja : a < j
      · have hj1 : ((j : Int) - 1).toNat = j - 1 := by omega
        have hj0 : (0 : Int) ≤ (j : Int) - 1 := by omega
        have hj2 : (j : Int) - 1 < (N : Int) := by omega
        have hjn : j < N := by omega
        have hkn : j - 1 < N := by omega
        have hne : j ≠ j - 1 := by omega
        have hne' : j - 1 ≠ j := by omega
        go_quiet (first | (go_at_call 136; refine Calls.quiet_of_same (less_any _ _ _)))
        go_wp2
        · have hl : ltU (G j) (G (j - 1)) = true := by assumption
          go_region
          all_goals go_wp2
          go_roundg (j - 1)
          case rel => exact ⟨j - 1, Sort.swp e j (j - 1), rfl, by omega, by omega, by congr 1; omega, HUe.out.swap _ HG'.out _ _, HGo.out hja hl⟩
          case measure => omega
        · have hl : ltU (G j) (G (j - 1)) = false := by assumption
          go_roundg (b + 1 - (i + 1))
          case rel => exact ⟨i + 1, e, by omega, by omega, by go_num, HUe.out.drew _, HOut.out (.inr hl)⟩
          case measure => omega
      · go_quiet (first | (go_at_call 136; refine Calls.quiet_of_same (less_any _ _ _)))
        go_wp2
        go_roundg (b + 1 - (i + 1))
        case rel => exact ⟨i + 1, e, by omega, by omega, by go_num, HUe.out.drew _, HOut.out (.inl (by omega))⟩
        case measure => omega

end Go.Proofs.YtafkkehcacdodaaGreat

namespace Go.Proofs.YtafkkehcacdodaaGreat
open Go.RowKit Go.Shelf Go.Sort
attribute [local go_sem ↓] Go.wp_at_zero Go.wp_at_succ

theorem sift_stop (hi first r : Nat) (d : Array Int) (h : hi ≤ 2 * r + 1) : siftDown ltU hi first r d = d := by
  rw [siftDown, dif_pos (by omega)]

theorem sift_step (hi first r c : Nat) (d : Array Int) (h : 2 * r + 1 < hi) (hc : c = if 2 * r + 2 < hi ∧ ltU d[first + (2 * r + 1)]! d[first + (2 * r + 1) + 1]! = true then 2 * r + 2 else 2 * r + 1) :
    siftDown ltU hi first r d = if ltU d[first + r]! d[first + c]! = true then siftDown ltU hi first c (swp d (first + r) (first + c)) else d := by
  rw [siftDown, dif_neg (by omega)]
  by_cases hx : 2 * r + 2 < hi ∧ ltU d[first + (2 * r + 1)]! d[first + (2 * r + 1) + 1]! = true
  · rw [if_pos hx] at hc
    subst hc
    have h2 : 2 * r + 1 + 1 < hi := by omega
    simp only [h2, hx.2, decide_true, Bool.and_self, if_true, dite_true]
    cases ltU d[first + r]! d[first + (2 * r + 2)]! <;> simp
  · rw [if_neg hx] at hc
    subst hc
    have hf : (decide (2 * r + 1 + 1 < hi) && ltU d[first + (2 * r + 1)]! d[first + (2 * r + 1) + 1]!) = false := by
      rw [Bool.and_eq_false_iff]
      by_cases h2 : 2 * r + 2 < hi
      · right; simpa [h2] using hx
      · left; simp; omega
    simp only [hf]
    cases ltU d[first + r]! d[first + (2 * r + 1)]! <;> simp

set_option maxHeartbeats 8000000 in
theorem sift_ok (w : World) (base g cap N : Nat) (d : Array Int) (lo hi first : Nat) (h : UA w base g cap d) (hN : d.size = N) (hs : first + hi ≤ N) (hlo : lo ≤ 100000) (hd : N ≤ 100000) :
    Calls Tryz.prog 145 #[.slice (some ⟨g, 0, none⟩) N cap, .int .i64 lo, .int .i64 hi, .int .i64 first] w fun e w' => e = .returned (.tuple #[]) ∧ RwU w w' base g cap N (siftDown ltU hi first lo d) := by
  have HR : Hid (RwU w w base g cap N d) := RwU.start h hN
  obtain ⟨D, hD⟩ : ∃ D, D = siftDown ltU hi first lo d := ⟨_, rfl⟩
  have HD0 : Hid (siftDown ltU hi first lo d = D) := hD.symm
  rw [← hD]
  clear h hN hD
  go_enter Tryz.func145, Tryz.ntmps145
  go_wp2
  go_loopg [8] (lo + hi) (fun gk rv wr => ∃ (r : Nat) (e : Array Int), (r = lo ∧ gk = lo + hi ∨ r + gk = hi) ∧ rv = .int .i64 (r : Int) ∧ r ≤ 100000 ∧ RwU w wr base g cap N e ∧ Hid (siftDown ltU hi first r e = D))
  case atStart => exact ⟨lo, d, .inl ⟨rfl, rfl⟩, rfl, hlo, HR.out, HD0.out⟩
  case round =>
    obtain ⟨r, e, hr, rfl, hr1, hue, hie⟩ := hrel
    obtain ⟨c, hc⟩ : ∃ c : Nat, c = 2 * r + 1 := ⟨_, rfl⟩
    have hcI : 2 * (r : Int) + 1 = (c : Int) := by omega
    by_cases h1 : c < hi
    case neg =>
      have h1I : ¬ ((c : Int) < (hi : Int)) := by omega
      have h1J : (hi : Int) ≤ (c : Int) := by omega
      have HE : Hid (RwU w wr base g cap N D) := by
        show RwU _ _ _ _ _ _ _
        rw [← hie.out, sift_stop _ _ _ _ (by omega)]
        exact hue
      clear hue hie hc
      go_wp2
      (try simp only [Exit.inBlock, Exit.then])
      refine bodyPost_end (results_none rfl _ _ _) rfl ?_
      exact ⟨rfl, HE.out⟩
    have h1I : (c : Int) < (hi : Int) := by omega
    have h1J : ¬ ((hi : Int) ≤ (c : Int)) := by omega
    obtain ⟨x, hx⟩ : ∃ x : Nat, x = first + r := ⟨_, rfl⟩
    obtain ⟨y, hy⟩ : ∃ y : Nat, y = first + c := ⟨_, rfl⟩
    have hxI : (first : Int) + (r : Int) = (x : Int) := by omega
    have hyI : (first : Int) + (c : Int) = (y : Int) := by omega
    have txw : IntKind.i64.wrap (x : Int) = (x : Int) := IntWalk.i64_in _ (by omega)
    have tyw : IntKind.i64.wrap (y : Int) = (y : Int) := IntWalk.i64_in _ (by omega)
    have hxN : x < N := by omega
    have hyN : y < N := by omega
    have hxN' : (x : Int) < (N : Int) := by omega
    have hyN' : (y : Int) < (N : Int) := by omega
    have hxy : x ≠ y := by omega
    have hyx : y ≠ x := by omega
    obtain ⟨G, hG⟩ : ∃ G : Nat → Int, ∀ t, G t = e[t]! := ⟨fun t => e[t]!, fun _ => rfl⟩
    obtain ⟨hcw, hfw⟩ := hue.fam hG
    have HUe : Hid (RwU w wr base g cap N e) := hue
    have HG' : Hid (∀ t, G t = e[t]!) := hG
    have HSt : Hid (∀ k, (k = if 2 * r + 2 < hi ∧ ltU (G y) (G (y + 1)) = true then 2 * r + 2 else 2 * r + 1) → D = if ltU (G x) (G (first + k)) = true then siftDown ltU hi first k (swp e x (first + k)) else e) := fun k hk => by
      rw [← hie.out, sift_step hi first r k e (by omega) (by rw [hk, hG, hG, hy, hc]), hG, hG, hx]
    have hcR : Hid (c = 2 * r + 1) := hc
    have hyR : Hid (y = first + c) := hy
    have hrR : Hid (r = lo ∧ gk = lo + hi ∨ r + gk = hi) := hr
    clear hue hG hie hc hx hy hr
    by_cases h2 : c + 1 < hi
    · have h2I : (c : Int) + 1 < (hi : Int) := by omega
      obtain ⟨z, hz⟩ : ∃ z : Nat, z = y + 1 := ⟨_, rfl⟩
      have hzI : (y : Int) + 1 = (z : Int) := by omega
      have tzw : IntKind.i64.wrap (z : Int) = (z : Int) := IntWalk.i64_in _ (by have := hyR.out; omega)
      have hzN : z < N := by have := hyR.out; omega
      have hzN' : (z : Int) < (N : Int) := by omega
      have hxz : x ≠ z := by have := hyR.out; have := hcR.out; omega
      have hzx : z ≠ x := by omega
      have hzG : Hid (z = y + 1) := hz
      clear hz
      go_wp2
      go_quiet (first | (go_at_call 136; refine Calls.quiet_of_same (less_any _ _ _)))
      go_wp2
      · have hl0 : ltU (G y) (G z) = true := by assumption
        obtain ⟨k, hk⟩ : ∃ k : Nat, k = c + 1 := ⟨_, rfl⟩
        have hkI : (c : Int) + 1 = (k : Int) := by omega
        have hkz : (first : Int) + (k : Int) = (z : Int) := by have := hyR.out; have := hzG.out; omega
        have HK : Hid (D = if ltU (G x) (G z) = true then siftDown ltU hi first k (swp e x z) else e) := by
          have e1 : z = first + k := by omega
          have := HSt.out k (by rw [← hzG.out, if_pos ⟨by have := hcR.out; omega, hl0⟩, hk, hcR.out])
          rw [← e1] at this
          exact this
        have hkR : Hid (k = c + 1) := hk
        clear hk
        have hu2 := HUe.out.drew nq
        clear hcw hfw HUe
        generalize wr.drewN nq = wr2 at hu2 ⊢
        clear nq
        obtain ⟨hcw, hfw⟩ := hu2.fam HG'.out
        have HUe : Hid (RwU w wr2 base g cap N e) := hu2
        clear hu2
        go_quiet (first | (go_at_call 136; refine Calls.quiet_of_same (less_any _ _ _)))
        go_wp2
        · have hl : ltU (G x) (G z) = false := by simpa using (by assumption : (!ltU (G x) (G z)) = true)
          have HE : Hid (D = e) := by have := HK.out; rw [if_neg (by simp [hl])] at this; exact this
          (try simp only [Exit.inBlock, Exit.then])
          refine bodyPost_ret (results_none rfl _ _ _) rfl ?_
          exact ⟨rfl, by rw [HE.out]; exact HUe.out.drew _⟩
        · have hl : ltU (G x) (G z) = true := by simpa using (by assumption : (!ltU (G x) (G z)) = false)
          go_region
          all_goals go_wp2
          go_roundg (hi - k)
          case rel => exact ⟨k, swp e x z, .inr (by have := hcR.out; omega), by congr 1, by omega, HUe.out.swap _ HG'.out _ _, by have := HK.out; rw [if_pos hl] at this; exact this.symm⟩
          case measure => have := hcR.out; have := hrR.out; omega
      · have hl0 : ltU (G y) (G z) = false := by assumption
        have HK : Hid (D = if ltU (G x) (G y) = true then siftDown ltU hi first c (swp e x y) else e) := by
          have := HSt.out c (by rw [← hzG.out, if_neg (by simp [hl0]), hcR.out])
          rw [← hyR.out] at this
          exact this
        have hu2 := HUe.out.drew nq
        clear hcw hfw HUe
        generalize wr.drewN nq = wr2 at hu2 ⊢
        clear nq
        obtain ⟨hcw, hfw⟩ := hu2.fam HG'.out
        have HUe : Hid (RwU w wr2 base g cap N e) := hu2
        clear hu2
        go_quiet (first | (go_at_call 136; refine Calls.quiet_of_same (less_any _ _ _)))
        go_wp2
        · have hl : ltU (G x) (G y) = false := by simpa using (by assumption : (!ltU (G x) (G y)) = true)
          have HE : Hid (D = e) := by have := HK.out; rw [if_neg (by simp [hl])] at this; exact this
          (try simp only [Exit.inBlock, Exit.then])
          refine bodyPost_ret (results_none rfl _ _ _) rfl ?_
          exact ⟨rfl, by rw [HE.out]; exact HUe.out.drew _⟩
        · have hl : ltU (G x) (G y) = true := by simpa using (by assumption : (!ltU (G x) (G y)) = false)
          go_region
          all_goals go_wp2
          go_roundg (hi - c)
          case rel => exact ⟨c, swp e x y, .inr (by have := hcR.out; omega), by congr 1, by omega, HUe.out.swap _ HG'.out _ _, by have := HK.out; rw [if_pos hl] at this; exact this.symm⟩
          case measure => have := hcR.out; have := hrR.out; omega
    · have h2I : ¬ ((c : Int) + 1 < (hi : Int)) := by omega
      have h2J : (hi : Int) ≤ (c : Int) + 1 := by omega
      have HK : Hid (D = if ltU (G x) (G y) = true then siftDown ltU hi first c (swp e x y) else e) := by
        have := HSt.out c (by rw [if_neg (by have := hcR.out; omega), hcR.out])
        rw [← hyR.out] at this
        exact this
      have t1 : IntKind.i64.wrap ((c : Int) + 1) = (c : Int) + 1 := IntWalk.i64_in _ (by omega)
      have h2K : decide ((c : Int) + 1 < (hi : Int)) = false := by simpa using h2J
      go_wp2
      go_quiet (first | (go_at_call 136; refine Calls.quiet_of_same (less_any _ _ _)))
      go_wp2
      have hu2 := HUe.out.drew nq
      clear hcw hfw HUe
      generalize wr.drewN nq = wr2 at hu2 ⊢
      clear nq
      obtain ⟨hcw, hfw⟩ := hu2.fam HG'.out
      have HUe : Hid (RwU w wr2 base g cap N e) := hu2
      clear hu2
      go_quiet (first | (go_at_call 136; refine Calls.quiet_of_same (less_any _ _ _)))
      go_wp2
      · have hl : ltU (G x) (G y) = false := by simpa using (by assumption : (!ltU (G x) (G y)) = true)
        have HE : Hid (D = e) := by have := HK.out; rw [if_neg (by simp [hl])] at this; exact this
        (try simp only [Exit.inBlock, Exit.then])
        refine bodyPost_ret (results_none rfl _ _ _) rfl ?_
        exact ⟨rfl, by rw [HE.out]; exact HUe.out.drew _⟩
      · have hl : ltU (G x) (G y) = true := by simpa using (by assumption : (!ltU (G x) (G y)) = false)
        go_region
        all_goals go_wp2
        go_roundg (hi - c)
        case rel => exact ⟨c, swp e x y, .inr (by have := hcR.out; omega), by congr 1, by omega, HUe.out.swap _ HG'.out _ _, by have := HK.out; rw [if_pos hl] at this; exact this.symm⟩
        case measure => have := hcR.out; have := hrR.out; omega

theorem tdiv2 (n : Nat) : ((n : Int) - 1).tdiv 2 = (((n - 1) / 2 : Nat) : Int) := by
  cases n with
  | zero => rfl
  | succ m =>
    rw [show (((m + 1 : Nat) : Int) - 1) = (m : Int) by omega, Int.tdiv_eq_ediv_of_nonneg (by omega)]
    simp

set_option maxHeartbeats 8000000 in
theorem heap_ok (w : World) (base g cap N : Nat) (d : Array Int) (a b : Nat) (h : UA w base g cap d) (hN : d.size = N) (hab : a ≤ b) (hb : b ≤ N) (hd : N ≤ 100000) :
    Calls Tryz.prog 131 #[.slice (some ⟨g, 0, none⟩) N cap, .int .i64 a, .int .i64 b] w fun e w' => e = .returned (.tuple #[]) ∧ RwU w w' base g cap N (heapSort ltU d a b) := by
  have HR : Hid (RwU w w base g cap N d) := RwU.start h hN
  obtain ⟨H, hH⟩ : ∃ H : Nat, H = b - a := ⟨_, rfl⟩
  obtain ⟨q, hq⟩ : ∃ q : Nat, q = (H - 1) / 2 := ⟨_, rfl⟩
  have hHI : (b : Int) - (a : Int) = (H : Int) := by omega
  have hqI : ((H : Int) - 1).tdiv 2 = (q : Int) := by rw [hq]; exact tdiv2 H
  obtain ⟨D1, hD1⟩ : ∃ D1, D1 = heapBuild ltU H a (q + 1) d := ⟨_, rfl⟩
  obtain ⟨D, hD⟩ : ∃ D, D = heapPop ltU a H D1 := ⟨_, rfl⟩
  have e0 : heapSort ltU d a b = D := by rw [hD, hD1, hq, hH]; rfl
  rw [e0]
  have hqH : q ≤ H := by omega
  have haH : a + H ≤ N := by omega
  have HD1 : Hid (heapBuild ltU H a (q + 1) d = D1) := hD1.symm
  have HD : Hid (heapPop ltU a H D1 = D) := hD.symm
  have hw1 : IntKind.i64.wrap ((H : Int) - 1) = (H : Int) - 1 := IntWalk.i64_in _ (by omega)
  have hw2 : IntKind.i64.wrap (q : Int) = (q : Int) := IntWalk.i64_in _ (by omega)
  clear h hN hD hD1 e0 hH hq
  go_enter Tryz.func131, Tryz.ntmps131
  go_wp2
  go_loopg [9] (q + 1) (fun gk iv wr => ∃ (i : Int) (e : Array Int), i = (gk : Int) - 1 ∧ gk ≤ q + 1 ∧ iv = .int .i64 i ∧ RwU w wr base g cap N e ∧ Hid (heapBuild ltU H a gk e = D1))
  case atStart => exact ⟨(q : Int), d, by omega, by omega, rfl, HR.out, HD1.out⟩
  case round =>
    obtain ⟨i, e, hi, hk, rfl, hue, hie⟩ := hrel
    have HUe : Hid (RwU w wr base g cap N e) := hue
    clear hue
    cases gk with
    | zero =>
      obtain rfl : i = -1 := by omega
      clear hi
      have HE : Hid (e = D1) := by rw [← hie.out]; rfl
      clear hie
      go_wp2
      go_loopg [10] H (fun gk iv wr => ∃ (i : Int) (e : Array Int), i = (gk : Int) - 1 ∧ gk ≤ H ∧ iv = .int .i64 i ∧ RwU w wr base g cap N e ∧ Hid (heapPop ltU a gk e = D))
      case atStart => exact ⟨(H : Int) - 1, D1, by omega, by omega, rfl, by rw [← HE.out]; exact HUe.out, HD.out⟩
      case round =>
        obtain ⟨i, e, hi, hk, rfl, hue, hie⟩ := hrel
        cases gk with
        | zero =>
          obtain rfl : i = -1 := by omega
          clear hi
          have HE : Hid (RwU w wr base g cap N D) := by show RwU _ _ _ _ _ _ _; rw [← hie.out]; exact hue
          clear hie hue
          go_wp2
          refine bodyPost_end (results_none rfl _ _ _) rfl ?_
          exact ⟨rfl, HE.out⟩
        | succ k =>
          obtain rfl : i = (k : Int) := by omega
          clear hi
          obtain ⟨x, hx⟩ : ∃ x : Nat, x = a + k := ⟨_, rfl⟩
          have hxI : (a : Int) + (k : Int) = (x : Int) := by omega
          have hxN : x < N := by omega
          have haN : a < N := by omega
          have hxN' : (x : Int) < (N : Int) := by omega
          have haN' : (a : Int) < (N : Int) := by omega
          have txw : IntKind.i64.wrap (x : Int) = (x : Int) := IntWalk.i64_in _ (by omega)
          have hk0 : (0 : Int) ≤ (k : Int) := by omega
          have hkN : a + k ≤ N := by omega
          obtain ⟨G, hG⟩ : ∃ G : Nat → Int, ∀ t, G t = e[t]! := ⟨fun t => e[t]!, fun _ => rfl⟩
          obtain ⟨hcw, hfw⟩ := hue.fam hG
          have HUe2 : Hid (RwU w wr base g cap N e) := hue
          have HG' : Hid (∀ t, G t = e[t]!) := hG
          obtain ⟨ux, hux⟩ := hue.recell a x (G x) hxN
          have HGo : Hid (heapPop ltU a k (siftDown ltU k a 0 (swp e a x)) = D) := by show _ = _; rw [← hie.out, hx]; rfl
          clear hue hG hie hx
          go_wp2
          go_region
          have hu2 : RwU w ((wr.setCell ⟨g, a, none⟩ (.int .u32 (G x))).setCell ⟨g, x, none⟩ (.int .u32 (G a))).drew base g cap N (swp e a x) := HUe2.out.swap 1 HG'.out a x
          clear hcw hfw HUe2 hux
          generalize ((wr.setCell ⟨g, a, none⟩ (.int .u32 (G x))).setCell ⟨g, x, none⟩ (.int .u32 (G a))).drew = wr2 at hu2 ⊢
          have HU2 : Hid (RwU w wr2 base g cap N (swp e a x)) := hu2
          clear hu2
          go_wp2_with (go_at_call 145; refine (sift_ok _ base g cap N (swp e a x) 0 k a HU2.out.1 HU2.out.2.1 (by omega) (by omega) hd).mono ?_; rintro e1 w1 ⟨rfl, h1⟩; have H1 : Hid (RwU wr2 w1 base g cap N (siftDown ltU k a 0 (swp e a x))) := h1; clear h1)
          go_roundg k
          case rel => exact ⟨(k : Int) - 1, _, rfl, by omega, by go_num, HU2.out.call H1.out, HGo.out⟩
          case measure => omega
    | succ k =>
      obtain rfl : i = (k : Int) := by omega
      clear hi
      have hk0 : (0 : Int) ≤ (k : Int) := by omega
      go_wp2_with (go_at_call 145; refine (sift_ok _ base g cap N e k H a HUe.out.1 HUe.out.2.1 haH (by omega) hd).mono ?_; rintro e1 w1 ⟨rfl, h1⟩; have H1 : Hid (RwU wr w1 base g cap N (siftDown ltU H a k e)) := h1; clear h1)
      go_roundg k
      case rel => exact ⟨(k : Int) - 1, _, rfl, by omega, by go_num, HUe.out.call H1.out, by show _ = _; rw [← hie.out]; rfl⟩
      case measure => omega

theorem rev_go (i j : Nat) (d : Array Int) (h : i < j) : reverseLoop i j d = reverseLoop (i + 1) (j - 1) (swp d i j) := by rw [reverseLoop, if_pos h]
theorem rev_stop (i j : Nat) (d : Array Int) (h : ¬ i < j) : reverseLoop i j d = d := by rw [reverseLoop, if_neg h]

set_option maxHeartbeats 8000000 in
theorem rev_ok (w : World) (base g cap N : Nat) (d : Array Int) (a b : Nat) (h : UA w base g cap d) (hN : d.size = N) (hab : a < b) (hb : b ≤ N) (hd : N ≤ 100000) :
    Calls Tryz.prog 134 #[.slice (some ⟨g, 0, none⟩) N cap, .int .i64 a, .int .i64 b] w fun e w' => e = .returned (.tuple #[]) ∧ RwU w w' base g cap N (reverseRange d a b) := by
  have HR : Hid (RwU w w base g cap N d) := RwU.start h hN
  obtain ⟨D, hD⟩ : ∃ D, D = reverseRange d a b := ⟨_, rfl⟩
  rw [← hD]
  have HD : Hid (reverseLoop a (b - 1) d = D) := hD.symm
  clear h hN hD
  go_enter Tryz.func134, Tryz.ntmps134
  go_wp2
  go_loopg [6, 7] b (fun gk iv jv wr => ∃ (i j : Nat) (e : Array Int), j = gk - 1 ∧ 0 < gk ∧ a ≤ i ∧ j < b ∧ i ≤ b ∧ iv = .int .i64 (i : Int) ∧ jv = .int .i64 (j : Int) ∧ RwU w wr base g cap N e ∧ Hid (reverseLoop i j e = D))
  case atStart => exact ⟨a, b - 1, d, rfl, by omega, by omega, by omega, by omega, rfl, by congr 1; omega, HR.out, HD.out⟩
  case round =>
    obtain ⟨i, j, e, hj, hg0, hai, hjb, hib, rfl, rfl, hue, hie⟩ := hrel
    by_cases hij : i < j
    case neg =>
      have hijI : ¬ ((i : Int) < (j : Int)) := by omega
      have HE : Hid (RwU w wr base g cap N D) := by show RwU _ _ _ _ _ _ _; rw [← hie.out, rev_stop _ _ _ hij]; exact hue
      clear hie hue
      go_wp2
      refine bodyPost_end (results_none rfl _ _ _) rfl ?_
      exact ⟨rfl, HE.out⟩
    have hijI : (i : Int) < (j : Int) := by omega
    have hiN : i < N := by omega
    have hjN : j < N := by omega
    have hiN' : (i : Int) < (N : Int) := by omega
    have hjN' : (j : Int) < (N : Int) := by omega
    have hne : i ≠ j := by omega
    have hne' : j ≠ i := by omega
    obtain ⟨G, hG⟩ : ∃ G : Nat → Int, ∀ t, G t = e[t]! := ⟨fun t => e[t]!, fun _ => rfl⟩
    obtain ⟨hcw, hfw⟩ := hue.fam hG
    have HUe2 : Hid (RwU w wr base g cap N e) := hue
    have HG' : Hid (∀ t, G t = e[t]!) := hG
    have HGo : Hid (reverseLoop (i + 1) (j - 1) (swp e i j) = D) := by show _ = _; rw [← hie.out, rev_go _ _ _ hij]
    have HJ : Hid (j = gk - 1) := hj
    clear hue hG hie hj
    go_wp2
    go_region
    all_goals go_wp2
    go_roundg (gk - 1)
    case rel => exact ⟨i + 1, j - 1, _, by have := HJ.out; omega, by have := HJ.out; omega, by omega, by omega, by omega, by go_num, by congr 1; omega, HUe2.out.swap _ HG'.out i j, HGo.out⟩
    case measure => omega

end Go.Proofs.YtafkkehcacdodaaGreat
