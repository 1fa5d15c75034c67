/- The contract of Word, the document's own answer. -/
import Derived.Test.YtdejjokgchbgnaaIcmpParse
import Derived.Test.YtdejjokgchbgnaaRlong3
set_option maxRecDepth 100000
namespace Go.Proofs.Ytdejjokgchbgnaa
open Go.RowKit
attribute [local go_sem ↓] Go.wp_at_zero Go.wp_at_succ

/-- Two cells that a world has. -/
structure Two (w : World) (b o : Nat) (x y : Int) : Prop where
  c0 : w.cell? ⟨b, o, none⟩ = some (.int .u8 x)
  c1 : w.cell? ⟨b, o + 1, none⟩ = some (.int .u8 y)

theorem two_drew {w : World} {b o : Nat} {x y : Int} (h : Two w b o x y) : w.drew.cell? ⟨b, o, none⟩ = some (.int .u8 x) ∧ w.drew.cell? ⟨b, o + 1, none⟩ = some (.int .u8 y) := ⟨h.c0, h.c1⟩

theorem two_is {w : World} {b o : Nat} {x y : Int} (h : Two w b o x y) : w.cell? ⟨b, o, none⟩ = some (.int .u8 x) ∧ w.cell? ⟨b, o + 1, none⟩ = some (.int .u8 y) := ⟨h.c0, h.c1⟩

theorem Two.later {w w' : World} {b o : Nat} {x y : Int} (h : Two w b o x y) (hb : Below w.heap.size w w') : Two w' b o x y := ⟨cell_later hb h.c0, cell_later hb h.c1⟩

theorem two_laid {w : World} {n b o : Nat} {x y : Int} (hn : n ≠ b) (h : Two w b o x y) (x0 x1 x2 x3 : Value) :
    ((((w.setCell ⟨n, 0, none⟩ x0).setCell ⟨n, 1, none⟩ x1).setCell ⟨n, 2, none⟩ x2).setCell ⟨n, 3, none⟩ x3).cell? ⟨b, o, none⟩ = some (.int .u8 x) ∧
      ((((w.setCell ⟨n, 0, none⟩ x0).setCell ⟨n, 1, none⟩ x1).setCell ⟨n, 2, none⟩ x2).setCell ⟨n, 3, none⟩ x3).cell? ⟨b, o + 1, none⟩ = some (.int .u8 y) := by
  have key : ∀ (u : World) (i j : Nat) (x : Value), (u.setCell ⟨n, i, none⟩ x).cell? ⟨b, j, none⟩ = u.cell? ⟨b, j, none⟩ := fun u i j x => World.cell?_setCell_far u ⟨n, i, none⟩ ⟨b, j, none⟩ x hn
  simp only [key]
  exact ⟨h.c0, h.c1⟩

theorem wrparse_short (a : Option Addr) (len cap : Nat) (w : World) (h : len < 8) :
    Calls Try.prog 49 #[.slice a len cap] w fun e w' => e = .returned (.tuple #[wdV Wd.zero (.slice none 0 0), .int .i64 2]) ∧ Below w.heap.size w w' := by
  have h' : (len : Int) < 8 := by omega
  go_enter Try.func49, Try.ntmps49
  go_wp2
  refine bodyPost_ret (v := .tuple #[wdV Wd.zero (.slice none 0 0), .int .i64 2]) ?_ rfl ?_
  · simp [results, Try.results49, go_sem, Wd.zero]
  exact ⟨rfl, below_alloc _ _⟩

set_option maxHeartbeats 2000000 in
theorem wrparse_sum (b off len cap : Nat) (l : List Int) (w : World) (hA : At w b off len cap l) (hl : len ≤ 1099511627776) (g1 : 8 ≤ len) (h : fold16 (ws l) ≠ 65535) :
    Calls Try.prog 49 #[.slice (some ⟨b, off, none⟩) len cap] w fun e w' => e = .returned (.tuple #[wdV Wd.zero (.slice none 0 0), .int .i64 5]) ∧ Below w.heap.size w w' := by
  have h' : ¬ (len : Int) < 8 := by omega
  have hs : (fold16 (ws l) != 65535) = true := by rw [bne_iff_ne]; exact h
  have HL : Hid (l.length = len) := hA.len
  clear h
  go_enter Try.func49, Try.ntmps49
  go_wp2_with fail
  refine (wone_any _ l _ (hA.later (below_alloc w (.cells zeroWC 87))).bts (by rw [HL.out]; exact hl)).mono ?_
  rintro e w1 ⟨rfl, hb1⟩
  obtain ⟨⟨c0, c1, c2, c3⟩, hfz⟩ := zeroWC_cells rfl hb1
  have bel := laidW_below (below_trans (below_alloc _ _) hb1) Wd.zero (.slice none 0 0)
  clear hb1
  go_wp2
  refine bodyPost_ret (v := .tuple #[wdV Wd.zero (.slice none 0 0), .int .i64 5]) ?_ rfl ?_
  · simp [results, Try.results49, go_sem, c0, c1, c2, c3, Wd.zero]
  exact ⟨rfl, bel⟩

theorem wrparse_no (a : Option Addr) (b off len cap : Nat) (l : List Int) (w : World) (ha : a = some ⟨b, off, none⟩ ∨ l = []) (hA : At w b off len cap l) (hl : len ≤ 1099511627776) (h : ¬ parseW l = 0) :
    Calls Try.prog 49 #[.slice a len cap] w fun e w' => e = .returned (.tuple #[wdV Wd.zero (.slice none 0 0), .int .i64 (parseW l)]) ∧ Below w.heap.size w w' := by
  have hL := hA.len
  obtain ⟨E, hE⟩ : ∃ E, parseW l = E := ⟨_, rfl⟩
  rw [hE] at h ⊢
  unfold parseW at hE
  by_cases g1 : l.length < 8
  · rw [if_pos g1] at hE; subst hE; exact wrparse_short a len cap w (by omega)
  rw [if_neg g1] at hE
  rcases ha with rfl | rfl
  case inr => simp at g1
  by_cases g2 : fold16 (ws l) ≠ 65535
  · rw [if_pos g2] at hE; subst hE; exact wrparse_sum b off len cap l w hA hl (by omega) g2
  rw [if_neg g2] at hE
  exact absurd hE.symm h

theorem wrlong_bel (b off len cap : Nat) (l : List Int) (q : Int) (k : Nat) (w : World) (hA : At w b off len cap l) (hq : q = (k : Int)) (hk : k + 4 ≤ len) (hl : len ≤ 140737488351232) :
    Calls Try.prog 48 #[.slice (some ⟨b, off, none⟩) len cap, .int .i64 q] w fun e w' => e = .returned (.int .u32 (w4 l k)) ∧ Below w.heap.size w w' := by
  refine (rlong_any b off len cap l q k w hA hq hk hl).mono ?_
  rintro e w' ⟨rfl, nq, rfl⟩
  exact ⟨rfl, below_drewN (Below.refl _ _) _⟩

set_option maxHeartbeats 8000000 in
theorem wrparse_own (b off len cap : Nat) (l : List Int) (w : World) (hA : At w b off len cap l) (hl : len ≤ 1099511627776) (g : WGood l) :
    Calls Try.prog 49 #[.slice (some ⟨b, off, none⟩) len cap] w fun e w' =>
      ∃ a1 k1, e = .returned (.tuple #[wdV (wdOf l) (.slice a1 (wdOf l).data.length k1), .int .i64 0]) ∧ Owns w' w.heap.size (.slice a1 (wdOf l).data.length k1) (wdOf l).data ∧ Below w.heap.size w w' := by
  have hL := hA.len
  have hc := hA.cap1
  have g1 := g.a
  rw [hL] at g1
  have h' : ¬ (len : Int) < 8 := by omega
  have hs : (fold16 (ws l) != 65535) = false := by rw [g.e]; rfl
  have HBL : Hid (isBytes l) := hA.bytes
  have HLL : Hid (l.length = len) := hL
  clear g hL
  go_enter Try.func49, Try.ntmps49
  go_wp2_with fail
  refine (wone_any _ l _ (hA.later (below_alloc w (.cells zeroWC 87))).bts (by rw [HLL.out]; exact hl)).mono ?_
  rintro e w1 ⟨rfl, hb1⟩
  have hb0 : Below w.heap.size w w1 := below_trans (below_alloc _ _) hb1
  have hA1 := hA.later hb0
  have p0 : w.cell? ⟨b, off, none⟩ = some (.int .u8 (b1 l 0)) := hA.sees 0 (by rw [HLL.out]; omega)
  have hbn' : w.heap.size ≠ b := by have := World.block_lt_of_cell? w _ p0; simp only at this; omega
  have hT : Two w1 b off (b1 l 0) (b1 l 1) := ⟨hA1.sees 0 (by rw [HLL.out]; omega), hA1.sees 1 (by rw [HLL.out]; omega)⟩
  have l0 : 0 < len := by omega
  have l1 : (1 : Int) < (len : Int) := by omega
  obtain ⟨x0, y0⟩ := b1_bd l HBL.out 0
  obtain ⟨x1, y1⟩ := b1_bd l HBL.out 1
  have u0 : IntKind.i64.wrap (b1 l 0) = b1 l 0 := i64_id _ (by omega) (by omega)
  have u1 : IntKind.i64.wrap (b1 l 1) = b1 l 1 := i64_id _ (by omega) (by omega)
  have HW : Hid (Below (w.alloc (.cells zeroWC 87)).heap.size (w.alloc (.cells zeroWC 87)) w1) := hb1
  have hsz := hb1.size
  simp only [World.size_alloc] at hsz
  clear hb1 p0
  go_wp2_with fail
  go_region_held3 (fun w' => w'.cell? ⟨b, off, none⟩ = some (.int .u8 (b1 l 0)) ∧ w'.cell? ⟨b, off + 1, none⟩ = some (.int .u8 (b1 l 1))) (first | (with_reducible exact two_drew hT) | (with_reducible exact two_is hT4) | (with_reducible exact two_is HT8.out) | (with_reducible exact two_laid HNB.out HT8.out _ _ _ _))
    (first
      | (go_at_call 48; refine (wrlong_bel b off len cap l 4 4 _ (by with_reducible exact hA1.later (Below.refl _ _).drew) rfl (by omega) (by omega)).mono ?_; rintro e w4' ⟨rfl, hb4'⟩; have hb4 : Below w1.heap.size w1 w4' := below_trans (Below.refl _ _).drew hb4'; have hT4 := hT.later hb4)
      | (go_at_call 23; refine (part_any b off len cap l 8 (len : Int) 8 len _ (hA1.later hb4) rfl rfl (by omega) (by omega) (by omega)).mono ?_; rintro e w8 ⟨v8, rfl, ho8, hb8'⟩; rw [← HLL.out, drop_all] at ho8; obtain ⟨a2, k2, rfl⟩ := Bts.shapeW (l := (wdOf l).data) (ho8.bts (isBytes_drop HBL.out _)); have hb8 := below_trans hb4 hb8'; have HT8 : Hid (Two w8 b off (b1 l 0) (b1 l 1)) := hT4.later hb8'; have HNB : Hid (w.heap.size ≠ b) := hbn'; obtain ⟨⟨z0, z1, z2, z3⟩, hfz⟩ := zeroWC_cells rfl (below_trans HW.out hb8)))
  have hlt2 : w.heap.size < w4'.heap.size := by have := hb4.size; omega
  have hB2 := laidW_owns ho8 hlt2 (wdOf l) (.slice a2 (wdOf l).data.length k2)
  have bel := laidW_below (below_trans hb0 hb8) (wdOf l) (.slice a2 (wdOf l).data.length k2)
  obtain ⟨r0, r1, r2, r3⟩ := laidW_cells rfl (below_trans HW.out hb8) (wdOf l) (.slice a2 (wdOf l).data.length k2)
  obtain ⟨W, hW⟩ : ∃ W, W = laidW w8 w.heap.size (wdOf l) (.slice a2 (wdOf l).data.length k2) := ⟨_, rfl⟩
  have hW' : ((((w8.setCell ⟨w.heap.size, 0, none⟩ (.int .i64 (b1 l 0))).setCell ⟨w.heap.size, 1, none⟩ (.int .i64 (b1 l 1))).setCell ⟨w.heap.size, 2, none⟩ (.int .u32 (w4 l 4))).setCell ⟨w.heap.size, 3, none⟩ (.slice a2 (wdOf l).data.length k2)) = W := hW.symm
  rw [hW']
  rw [← hW] at hB2 bel r0 r1 r2 r3
  clear hW hW' z0 z1 z2 z3 hfz ho8 hb8 hb4 hb8' hT hT4
  have hb2 := hB2.low (Nat.le_of_lt hlt2)
  clear hB2
  go_wp2
  refine bodyPost_ret (v := .tuple #[wdV (wdOf l) (.slice a2 (wdOf l).data.length k2), .int .i64 0]) ?_ rfl ?_
  · simp [results, Try.results49, go_sem, r0, r1, r2, r3]
  exact ⟨_, _, rfl, hb2, bel⟩

theorem wrparse_ok (b off len cap : Nat) (l : List Int) (w : World) (hA : At w b off len cap l) (hl : len ≤ 1099511627776) (g : WGood l) :
    Calls Try.prog 49 #[.slice (some ⟨b, off, none⟩) len cap] w fun e w' =>
      ∃ a1 k1, e = .returned (.tuple #[wdV (wdOf l) (.slice a1 (wdOf l).data.length k1), .int .i64 0]) ∧ Bts w' (.slice a1 (wdOf l).data.length k1) (wdOf l).data ∧ Below w.heap.size w w' := by
  refine (wrparse_own b off len cap l w hA hl g).mono ?_
  rintro e w' ⟨a1, k1, rfl, ho, hb⟩
  exact ⟨a1, k1, rfl, ho.bts (isBytes_drop hA.bytes _), hb⟩
end Go.Proofs.Ytdejjokgchbgnaa
