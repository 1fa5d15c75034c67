/- The library's sort of subscribers: the pivot. -/
import Derived.Test.YtafkkehcacdodaaGreatM28
import Derived.Sort.LotD4
import Derived.Sort.AtCall
set_option maxRecDepth 100000
namespace Go.Proofs.YtafkkehcacdodaaGreat
open Go.RowKit Go.Shelf Go.Sort
attribute [local go_sem ↓] Go.wp_at_zero Go.wp_at_succ

theorem UA.grown {w w' : World} {base g cap c : Nat} {d : Array Int} (h : UA w base g cap d) (hg : w.grownBy w' (some c)) (hcg : c ≠ g) : UA w' base g cap d := by
  refine ownsRow_same h ?_
  intro k hk
  have hlt := ownsRow_lt h hk
  have : k = g := (Option.some.inj hk).symm
  subst this
  exact hg.block k hlt.2 (fun e => hcg (Option.some.inj e).symm)

/-- The row is as it was; the count at c is s. -/
def CW (w wr : World) (base g cap c s : Nat) (d : Array Int) : Prop := UA wr base g cap d ∧ wr.cell? ⟨c, 0, none⟩ = some (.int .i64 (s : Int)) ∧ wr.frozen? ⟨c, 0, none⟩ = false ∧ w.grownBy wr (some c)

theorem CW.call {w wr w' : World} {base g cap c s s' : Nat} {d : Array Int} (h : CW w wr base g cap c s d) (h' : CW wr w' base g cap c s' d) : CW w w' base g cap c s' d :=
  ⟨h'.1, h'.2.1, h'.2.2.1, grown_both h.2.2.2 h'.2.2.2⟩

theorem CW.self {w wr : World} {base g cap c s : Nat} {d : Array Int} (h : CW w wr base g cap c s d) : CW wr wr base g cap c s d := ⟨h.1, h.2.1, h.2.2.1, grown_refl _ _⟩

theorem CW.drew {w wr : World} {base g cap c s : Nat} {d : Array Int} (h : CW w wr base g cap c s d) (q : Nat) : CW w (wr.drewN q) base g cap c s d :=
  ⟨h.1.drewN q, h.2.1, h.2.2.1, grown_both h.2.2.2 (grown_drewN _ _ _)⟩

theorem CW.put {w wr : World} {base g cap c s : Nat} {d : Array Int} (h : CW w wr base g cap c s d) (hcg : c ≠ g) (s' : Nat) : CW w (wr.setCell ⟨c, 0, none⟩ (.int .i64 (s' : Int))) base g cap c s' d := by
  refine ⟨h.1.grown (grown_set _) hcg, ?_, ?_, grown_both h.2.2.2 (grown_set _)⟩
  · exact World.cell?_setCell_same _ _ _ h.2.1
  · exact (World.frozen?_setCell ..).trans h.2.2.1

set_option maxHeartbeats 4000000 in
theorem order_ok (w : World) (base g cap N c s : Nat) (d : Array Int) (a b : Nat) (h : CW w w base g cap c s d) (hN : d.size = N) (ha : a < N) (hb : b < N) (hcg : c ≠ g) (hs : s ≤ 1000) (_hd : N ≤ 100000) :
    Calls Tryz.prog 151 #[.slice (some ⟨g, 0, none⟩) N cap, .int .i64 a, .int .i64 b, .pointer (some ⟨c, 0, none⟩)] w fun e w' =>
      e = .returned (.tuple #[.int .i64 ((order2 ltU d a b s).1 : Int), .int .i64 ((order2 ltU d a b s).2.1 : Int)]) ∧ CW w w' base g cap c (order2 ltU d a b s).2.2 d := by
  obtain ⟨G, hG⟩ : ∃ G : Nat → Int, ∀ t, G t = d[t]! := ⟨fun t => d[t]!, fun _ => rfl⟩
  have ca : w.cell? ⟨g, a, none⟩ = some (.int .u32 (G a)) := by rw [h.1.cell (by omega), hG]
  have cb : w.cell? ⟨g, b, none⟩ = some (.int .u32 (G b)) := by rw [h.1.cell (by omega), hG]
  have cs := h.2.1
  have fs := h.2.2.1
  have haI : (a : Int) < (N : Int) := by omega
  have hbI : (b : Int) < (N : Int) := by omega
  have HH : Hid (CW w w base g cap c s d) := h
  have HO : Hid (order2 ltU d a b s = if ltU (G b) (G a) = true then (b, a, s + 1) else (a, b, s)) := by show _ = _; unfold order2; rw [hG, hG]
  have hw : IntKind.i64.wrap ((s : Int) + 1) = (s : Int) + 1 := IntWalk.i64_in _ (by omega)
  clear h hN hG
  generalize hO : order2 ltU d a b s = O at *
  clear hO
  go_enter Tryz.func151, Tryz.ntmps151
  go_wp2
  go_quiet (first | (go_at_call 136; refine Calls.quiet_of_same (less_any _ _ _)))
  go_wp2
  · have hl : ltU (G b) (G a) = true := by assumption
    have e := HO.out
    rw [if_pos hl] at e
    subst e
    go_ret2
    exact ⟨rfl, (HH.out.drew _).put hcg (s + 1)⟩
  · have hl : ltU (G b) (G a) = false := by assumption
    have e := HO.out
    rw [if_neg (by simp [hl])] at e
    subst e
    go_ret2
    exact ⟨rfl, HH.out.drew _⟩

theorem order_in {d : Array Int} {a b s N : Nat} (ha : a < N) (hb : b < N) : (order2 ltU d a b s).1 < N ∧ (order2 ltU d a b s).2.1 < N := by
  rcases order2_mem ltU d a b s with ⟨h1, h2⟩ | ⟨h1, h2⟩ <;> rw [h1, h2] <;> exact ⟨by assumption, by assumption⟩

set_option maxHeartbeats 4000000 in
theorem median_ok (w : World) (base g cap N c s : Nat) (d : Array Int) (x y z : Nat) (h : CW w w base g cap c s d) (hN : d.size = N) (hx : x < N) (hy : y < N) (hz : z < N) (hcg : c ≠ g) (hs : s ≤ 900) (hd : N ≤ 100000) :
    Calls Tryz.prog 149 #[.slice (some ⟨g, 0, none⟩) N cap, .int .i64 x, .int .i64 y, .int .i64 z, .pointer (some ⟨c, 0, none⟩)] w fun e w' =>
      e = .returned (.int .i64 ((median ltU d x y z s).1 : Int)) ∧ CW w w' base g cap c (median ltU d x y z s).2 d := by
  have HM : Hid (median ltU d x y z s = ((order2 ltU d (order2 ltU d x y s).1 (order2 ltU d (order2 ltU d x y s).2.1 z (order2 ltU d x y s).2.2).1 (order2 ltU d (order2 ltU d x y s).2.1 z (order2 ltU d x y s).2.2).2.2).2.1, (order2 ltU d (order2 ltU d x y s).1 (order2 ltU d (order2 ltU d x y s).2.1 z (order2 ltU d x y s).2.2).1 (order2 ltU d (order2 ltU d x y s).2.1 z (order2 ltU d x y s).2.2).2.2).2.2)) := rfl
  generalize hM : median ltU d x y z s = M at *
  clear hM
  have i1 := order_in (d := d) (s := s) hx hy
  have k1 := order2_count ltU d x y s
  have C1 := order_ok w base g cap N c s d x y h hN hx hy hcg (by omega) hd
  generalize order2 ltU d x y s = o1 at *
  obtain ⟨x1, y1, s1⟩ := o1
  simp only [] at *
  have i2 := order_in (d := d) (s := s1) i1.2 hz
  have k2 := order2_count ltU d y1 z s1
  have C2 : ∀ wr, CW w wr base g cap c s1 d → _ := fun wr hr => order_ok wr base g cap N c s1 d y1 z hr.self hN i1.2 hz hcg (by omega) hd
  generalize order2 ltU d y1 z s1 = o2 at *
  obtain ⟨y2, z2, s2⟩ := o2
  simp only [] at *
  have k3 := order2_count ltU d x1 y2 s2
  have C3 : ∀ wr, CW w wr base g cap c s2 d → _ := fun wr hr => order_ok wr base g cap N c s2 d x1 y2 hr.self hN i1.1 i2.1 hcg (by omega) hd
  generalize order2 ltU d x1 y2 s2 = o3 at *
  obtain ⟨x3, y3, s3⟩ := o3
  simp only [] at *
  have e := HM.out
  subst e
  have H1 : Hid (Calls Tryz.prog 151 #[.slice (some ⟨g, 0, none⟩) N cap, .int .i64 x, .int .i64 y, .pointer (some ⟨c, 0, none⟩)] w fun e w' => e = .returned (.tuple #[.int .i64 (x1 : Int), .int .i64 (y1 : Int)]) ∧ CW w w' base g cap c s1 d) := C1
  have H2 : Hid (∀ wr, CW w wr base g cap c s1 d → Calls Tryz.prog 151 #[.slice (some ⟨g, 0, none⟩) N cap, .int .i64 y1, .int .i64 z, .pointer (some ⟨c, 0, none⟩)] wr fun e w' => e = .returned (.tuple #[.int .i64 (y2 : Int), .int .i64 (z2 : Int)]) ∧ CW wr w' base g cap c s2 d) := C2
  have H3 : Hid (∀ wr, CW w wr base g cap c s2 d → Calls Tryz.prog 151 #[.slice (some ⟨g, 0, none⟩) N cap, .int .i64 x1, .int .i64 y2, .pointer (some ⟨c, 0, none⟩)] wr fun e w' => e = .returned (.tuple #[.int .i64 (x3 : Int), .int .i64 (y3 : Int)]) ∧ CW wr w' base g cap c s3 d) := C3
  clear C1 C2 C3 HM h hN i1 i2 k1 k2 k3
  go_enter Tryz.func149, Tryz.ntmps149
  go_wp2_with (first
    | (go_at_call 151; refine (H3.out _ K2).mono ?_; rintro e w3 ⟨rfl, h3⟩; have K3 := K2.call h3; clear h3 K2)
    | (go_at_call 151; refine (H2.out _ K1).mono ?_; rintro e w2 ⟨rfl, h2⟩; have K2 := K1.call h2; clear h2 K1)
    | (go_at_call 151; refine H1.out.mono ?_; rintro e w1 ⟨rfl, K1⟩))
  go_ret
  exact ⟨rfl, K3⟩

set_option maxHeartbeats 4000000 in
theorem adjacent_ok (w : World) (base g cap N c s : Nat) (d : Array Int) (x : Nat) (h : CW w w base g cap c s d) (hN : d.size = N) (hx0 : 1 ≤ x) (hx : x + 1 < N) (hcg : c ≠ g) (hs : s ≤ 900) (hd : N ≤ 100000) :
    Calls Tryz.prog 148 #[.slice (some ⟨g, 0, none⟩) N cap, .int .i64 x, .pointer (some ⟨c, 0, none⟩)] w fun e w' =>
      e = .returned (.int .i64 ((medianAdjacent ltU d x s).1 : Int)) ∧ CW w w' base g cap c (medianAdjacent ltU d x s).2 d := by
  have HC : Hid (Calls Tryz.prog 149 #[.slice (some ⟨g, 0, none⟩) N cap, .int .i64 ((x - 1 : Nat) : Int), .int .i64 x, .int .i64 ((x + 1 : Nat) : Int), .pointer (some ⟨c, 0, none⟩)] w fun e w' =>
      e = .returned (.int .i64 ((medianAdjacent ltU d x s).1 : Int)) ∧ CW w w' base g cap c (medianAdjacent ltU d x s).2 d) := median_ok w base g cap N c s d (x - 1) x (x + 1) h hN (by omega) (by omega) hx hcg hs hd
  obtain ⟨p, hp⟩ : ∃ p : Nat, p = x - 1 := ⟨_, rfl⟩
  obtain ⟨n, hn⟩ : ∃ n : Nat, n = x + 1 := ⟨_, rfl⟩
  rw [← hp, ← hn] at HC
  generalize medianAdjacent ltU d x s = M at *
  have hpI : (x : Int) - 1 = (p : Int) := by omega
  have hnI : (x : Int) + 1 = (n : Int) := by omega
  have hpw : IntKind.i64.wrap (p : Int) = (p : Int) := IntWalk.i64_in _ (by omega)
  have hnw : IntKind.i64.wrap (n : Int) = (n : Int) := IntWalk.i64_in _ (by omega)
  clear h hN hp hn
  go_enter Tryz.func148, Tryz.ntmps148
  go_wp2_with (go_at_call 149; refine HC.out.mono ?_; rintro e w1 ⟨rfl, K1⟩)
  go_ret
  exact ⟨rfl, K1⟩

/-- The block of the count, laid anew. -/
theorem CW.fresh {w : World} {base g cap : Nat} {d : Array Int} (h : UA w base g cap d) : w.heap.size ≠ g ∧ CW (w.alloc (.cells #[.int .i64 0] 3)) (w.alloc (.cells #[.int .i64 0] 3)) base g cap w.heap.size 0 d := by
  refine ⟨?_, ownsRow_later h (below_alloc _ _), ?_, ?_, grown_refl _ _⟩
  · by_cases h0 : d.size = 0
    · have := h.2
      rcases this with ⟨h1, -⟩ | ⟨g', cap', cur, h1, -, h2, -⟩
      · cases h1
      · cases h1
        intro e
        rw [← e] at h2
        simp at h2
    · have hlt : g < w.heap.size := (ownsRow_lt h rfl).2
      omega
  · simp
  · simp

/-- What has been counted in the new block is gone: all that stood is as it was. -/
theorem CW.gone {w w' : World} {base g cap s N : Nat} {d : Array Int} (h : CW (w.alloc (.cells #[.int .i64 0] 3)) w' base g cap w.heap.size s d) (hN : d.size = N) : RwU w w' base g cap N d := by
  refine ⟨h.1, hN, World.grownBy.andThen (b' := w.alloc (.cells #[.int .i64 0] 3)) (row := some g) ⟨rfl, rfl, rfl, (below_alloc w _).size, fun k hk _ => ?_⟩ h.2.2.2 (fun j e => .inl (Nat.le_of_eq (Option.some.inj e)))⟩
  exact (below_alloc w _).block k hk

set_option maxHeartbeats 4000000 in
theorem pivot_ok (w : World) (base g cap N : Nat) (d : Array Int) (a b : Nat) (h : UA w base g cap d) (hN : d.size = N) (hab : a < b) (hb : b ≤ N) (hd : N ≤ 100000) :
    Calls Tryz.prog 133 #[.slice (some ⟨g, 0, none⟩) N cap, .int .i64 a, .int .i64 b] w fun e w' =>
      e = .returned (.tuple #[.int .i64 ((choosePivot ltU d a b).1 : Int), .int .i64 (hintCode (choosePivot ltU d a b).2)]) ∧ RwU w w' base g cap N d := by
  obtain ⟨hcg, hF⟩ := CW.fresh h
  have HG : Hid (∀ w' s, CW (w.alloc (.cells #[.int .i64 0] 3)) w' base g cap w.heap.size s d → RwU w w' base g cap N d) := fun w' s h' => h'.gone hN
  rw [choosePivot_eq]
  obtain ⟨L, hL⟩ : ∃ L : Nat, L = b - a := ⟨_, rfl⟩
  obtain ⟨q, hq⟩ : ∃ q : Nat, q = L / 4 := ⟨_, rfl⟩
  obtain ⟨I, hI⟩ : ∃ I : Nat, I = a + q := ⟨_, rfl⟩
  obtain ⟨J, hJ⟩ : ∃ J : Nat, J = a + q * 2 := ⟨_, rfl⟩
  obtain ⟨K, hK⟩ : ∃ K : Nat, K = a + q * 3 := ⟨_, rfl⟩
  have hLI : (b : Int) - (a : Int) = (L : Int) := by omega
  have hqI : (L : Int) / 4 = (q : Int) := by omega
  have hII : (a : Int) + (q : Int) = (I : Int) := by omega
  have hJI : (a : Int) + (q : Int) * 2 = (J : Int) := by omega
  have hKI : (a : Int) + (q : Int) * 3 = (K : Int) := by omega
  have hIN : 8 ≤ L → 1 ≤ I ∧ 1 ≤ J ∧ 1 ≤ K ∧ I + 1 < N ∧ J + 1 < N ∧ K + 1 < N := fun _ => by omega
  have hR : ∃ p s, rawPivot ltU d a b = (p, s) ∧ (8 ≤ L → 50 ≤ L → ∃ i1 s1 j1 s2 k1 s3, i1 < N ∧ j1 < N ∧ k1 < N ∧ s1 ≤ 3 ∧ s2 ≤ 6 ∧ s3 ≤ 9 ∧ medianAdjacent ltU d I 0 = (i1, s1) ∧ medianAdjacent ltU d J s1 = (j1, s2) ∧ medianAdjacent ltU d K s2 = (k1, s3) ∧ median ltU d i1 j1 k1 s3 = (p, s)) ∧ (8 ≤ L → ¬ 50 ≤ L → median ltU d I J K 0 = (p, s)) ∧ (¬ 8 ≤ L → p = J ∧ s = 0) := by
    refine ⟨(rawPivot ltU d a b).1, (rawPivot ltU d a b).2, rfl, fun h8 h50 => ?_, fun h8 h50 => ?_, fun h8 => ?_⟩
    · obtain ⟨-, -, -, hI2, hJ2, hK2⟩ := hIN h8
      refine ⟨(medianAdjacent ltU d I 0).1, (medianAdjacent ltU d I 0).2, (medianAdjacent ltU d J (medianAdjacent ltU d I 0).2).1, (medianAdjacent ltU d J (medianAdjacent ltU d I 0).2).2, (medianAdjacent ltU d K (medianAdjacent ltU d J (medianAdjacent ltU d I 0).2).2).1, (medianAdjacent ltU d K (medianAdjacent ltU d J (medianAdjacent ltU d I 0).2).2).2, ?_, ?_, ?_, ?_, ?_, ?_, rfl, rfl, rfl, ?_⟩
      · have := medianAdjacent_mem ltU d I 0; omega
      · have := medianAdjacent_mem ltU d J (medianAdjacent ltU d I 0).2; omega
      · have := medianAdjacent_mem ltU d K (medianAdjacent ltU d J (medianAdjacent ltU d I 0).2).2; omega
      · have := medianAdjacent_count ltU d I 0; omega
      · have := medianAdjacent_count ltU d I 0; have := medianAdjacent_count ltU d J (medianAdjacent ltU d I 0).2; omega
      · have := medianAdjacent_count ltU d I 0; have := medianAdjacent_count ltU d J (medianAdjacent ltU d I 0).2; have := medianAdjacent_count ltU d K (medianAdjacent ltU d J (medianAdjacent ltU d I 0).2).2; omega
      · unfold rawPivot
        rw [if_pos (by omega), if_pos (by omega), ← hL, ← hq, Nat.mul_one, ← hI, ← hJ, ← hK]
    · unfold rawPivot
      rw [if_pos (by omega), if_neg (by omega), ← hL, ← hq, Nat.mul_one, ← hI, ← hJ, ← hK]
    · unfold rawPivot
      rw [if_neg (by omega), ← hL, ← hq, ← hJ]
      exact ⟨rfl, rfl⟩
  obtain ⟨p, s, hps, hA, hB, hC⟩ := hR
  rw [hps]
  simp only []
  obtain ⟨Hc, hHc⟩ : ∃ Hc : Int, Hc = hintCode (hintOf s) := ⟨_, rfl⟩
  have hh0 : s = 0 → Hc = 1 := fun h => by rw [hHc, h]; rfl
  have hh12 : s = 12 → Hc = 2 := fun h => by rw [hHc, h]; rfl
  have hhx : s ≠ 0 → s ≠ 12 → Hc = 0 := fun h1 h2 => by rw [hHc]; unfold hintOf; rw [if_neg h1, if_neg h2]; rfl
  rw [← hHc]
  have HX : Hid ((s = 0 → Hc = 1) ∧ (s = 12 → Hc = 2) ∧ (s ≠ 0 → s ≠ 12 → Hc = 0)) := ⟨hh0, hh12, hhx⟩
  have hw1 : IntKind.i64.wrap (L : Int) = (L : Int) := IntWalk.i64_in _ (by omega)
  have hw2 : IntKind.i64.wrap (q : Int) = (q : Int) := IntWalk.i64_in _ (by omega)
  have hw3 : IntKind.i64.wrap (I : Int) = (I : Int) := IntWalk.i64_in _ (by omega)
  have hw4 : IntKind.i64.wrap (J : Int) = (J : Int) := IntWalk.i64_in _ (by omega)
  have hw5 : IntKind.i64.wrap (K : Int) = (K : Int) := IntWalk.i64_in _ (by omega)
  have hw6 : IntKind.i64.wrap ((q : Int) * 2) = (q : Int) * 2 := IntWalk.i64_in _ (by omega)
  have hw7 : IntKind.i64.wrap ((q : Int) * 3) = (q : Int) * 3 := IntWalk.i64_in _ (by omega)
  generalize hW : w.alloc (.cells #[.int .i64 0] 3) = W at *
  obtain ⟨c, hc⟩ : ∃ c, w.heap.size = c := ⟨_, rfl⟩
  rw [hc] at hcg hF HG
  clear h hL hq hI hJ hK hps hHc hh0 hh12 hhx
  by_cases h8 : 8 ≤ L
  · have h8I : (8 : Int) ≤ (L : Int) := by omega
    obtain ⟨hI1, hJ1, hK1, hI2, hJ2, hK2⟩ := hIN h8
    by_cases h50 : 50 ≤ L
    · have h50I : (50 : Int) ≤ (L : Int) := by omega
      obtain ⟨i1, s1, j1, s2, k1, s3, hi1, hj1, hk1, hs1, hs2, hs3, e1, e2, e3, e4⟩ := hA h8 h50
      have H1 := adjacent_ok W base g cap N c 0 d I hF hN hI1 hI2 hcg (by omega) hd
      have H2 : Hid (∀ wr, CW W wr base g cap c s1 d → _) := fun wr hr => adjacent_ok wr base g cap N c s1 d J hr.self hN hJ1 hJ2 hcg (by omega) hd
      have H3 : Hid (∀ wr, CW W wr base g cap c s2 d → _) := fun wr hr => adjacent_ok wr base g cap N c s2 d K hr.self hN hK1 hK2 hcg (by omega) hd
      have H4 : Hid (∀ wr, CW W wr base g cap c s3 d → _) := fun wr hr => median_ok wr base g cap N c s3 d i1 j1 k1 hr.self hN hi1 hj1 hk1 hcg (by omega) hd
      rw [e1] at H1
      rw [e2] at H2
      rw [e3] at H3
      rw [e4] at H4
      have H1' : Hid (Calls Tryz.prog 148 #[.slice (some ⟨g, 0, none⟩) N cap, .int .i64 I, .pointer (some ⟨c, 0, none⟩)] W fun e w' => e = .returned (.int .i64 (i1 : Int)) ∧ CW W w' base g cap c s1 d) := H1
      clear H1 hF hN hA hB hC e1 e2 e3 e4
      go_enter Tryz.func133, Tryz.ntmps133
      go_wp2_with (first
        | (go_at_call_has 148 (Value.int .i64 (I : Int)); refine H1'.out.mono ?_; rintro e w1 ⟨rfl, K1⟩)
        | (go_at_call_has 148 (Value.int .i64 (J : Int)); refine (H2.out _ K1).mono ?_; rintro e w2 ⟨rfl, h2⟩; have K2 := K1.call h2; clear h2 K1)
        | (go_at_call_has 148 (Value.int .i64 (K : Int)); refine (H3.out _ K2).mono ?_; rintro e w3 ⟨rfl, h3⟩; have K3 := K2.call h3; clear h3 K2)
        | (go_at_call 149; refine (H4.out _ K3).mono ?_; rintro e w4 ⟨rfl, h4⟩; have K4 := K3.call h4; clear h4 K3; have kc := K4.2.1))
      · have e0 : s = 0 := by have h := WalkArith.int_eq (a := (s : Int)) (b := 0) (by assumption); omega
        go_ret2
        exact ⟨by rw [HX.out.1 e0]; rfl, HG.out _ _ K4⟩
      · have e0 : s = 12 := by have h := WalkArith.int_eq (a := (s : Int)) (b := 12) (by assumption); omega
        go_ret2
        exact ⟨by rw [HX.out.2.1 e0]; rfl, HG.out _ _ K4⟩
      · have e0 : s ≠ 0 := by have h := WalkArith.int_ne (a := (s : Int)) (b := 0) (by assumption); omega
        have e1 : s ≠ 12 := by have h := WalkArith.int_ne (a := (s : Int)) (b := 12) (by assumption); omega
        go_ret2
        exact ⟨by rw [HX.out.2.2 e0 e1]; rfl, HG.out _ _ K4⟩
    · have h50I : ¬ ((50 : Int) ≤ (L : Int)) := by omega
      have h50J : (L : Int) < 50 := by omega
      have H4 := median_ok W base g cap N c 0 d I J K hF hN (by omega) (by omega) (by omega) hcg (by omega) hd
      rw [hB h8 h50] at H4
      have H4' : Hid (Calls Tryz.prog 149 #[.slice (some ⟨g, 0, none⟩) N cap, .int .i64 I, .int .i64 J, .int .i64 K, .pointer (some ⟨c, 0, none⟩)] W fun e w' => e = .returned (.int .i64 (p : Int)) ∧ CW W w' base g cap c s d) := H4
      clear H4 hF hN hA hB hC
      go_enter Tryz.func133, Tryz.ntmps133
      go_wp2_with (go_at_call 149; refine H4'.out.mono ?_; rintro e w4 ⟨rfl, K4⟩; have kc := K4.2.1)
      · have e0 : s = 0 := by have h := WalkArith.int_eq (a := (s : Int)) (b := 0) (by assumption); omega
        go_ret2
        exact ⟨by rw [HX.out.1 e0]; rfl, HG.out _ _ K4⟩
      · have e0 : s = 12 := by have h := WalkArith.int_eq (a := (s : Int)) (b := 12) (by assumption); omega
        go_ret2
        exact ⟨by rw [HX.out.2.1 e0]; rfl, HG.out _ _ K4⟩
      · have e0 : s ≠ 0 := by have h := WalkArith.int_ne (a := (s : Int)) (b := 0) (by assumption); omega
        have e1 : s ≠ 12 := by have h := WalkArith.int_ne (a := (s : Int)) (b := 12) (by assumption); omega
        go_ret2
        exact ⟨by rw [HX.out.2.2 e0 e1]; rfl, HG.out _ _ K4⟩
  · have h8I : ¬ ((8 : Int) ≤ (L : Int)) := by omega
    have h8J : (L : Int) < 8 := by omega
    obtain ⟨rfl, rfl⟩ := hC h8
    have H1c : Hid (Hc = 1) := HX.out.1 rfl
    have K4 := hF
    have kc := hF.2.1
    clear hF hN hA hB hC
    go_enter Tryz.func133, Tryz.ntmps133
    go_wp2
    go_ret2
    exact ⟨by rw [H1c.out]; rfl, HG.out _ _ K4⟩

end Go.Proofs.YtafkkehcacdodaaGreat
