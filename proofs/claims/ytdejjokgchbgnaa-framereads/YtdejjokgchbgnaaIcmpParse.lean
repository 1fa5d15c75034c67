/- The contract of Parse. -/
import Derived.Test.YtdejjokgchbgnaaIcmpBuild
set_option maxRecDepth 100000
namespace Go.Proofs.Ytdejjokgchbgnaa
open Go.RowKit
attribute [local go_sem ↓] Go.wp_at_zero Go.wp_at_succ

theorem wslice_from (b off len cap : Nat) (x : Int) (p : Nat) (hx : x = (p : Int)) (hp : p ≤ len) (hc : len ≤ cap) :
    ∃ V : Value, (∀ W, (Instr.slice 23 (.slice (some ⟨b, off, none⟩) len cap) (some (.int .i64 x)) none none).run Try.prog W = .ok V W) ∧ PartV V b off cap p len := by
  subst hx
  have ht' : Try.prog.underlying 23 = some (.slice (Try.prog.elem 23)) := by simp [Program.elem, Try.underlying23]
  have he : Try.prog.elem 23 = 5 := by simp [Program.elem, Try.underlying23]
  refine ⟨.slice (some ⟨b, if cap = p then off else off + p, none⟩) (len - p) (cap - p), fun W => ?_, _, rfl, ?_⟩
  · rw [run_slice_l W 23 _ _ _ ht' .i64 _ (by omega) (by omega), he, Try.sizeOf5]
    by_cases hc : cap = p
    · simp [Result.andThen, sliced, hc]
    · simp [Result.andThen, sliced, hc, add_at]
  · by_cases hc : cap = p
    · right; omega
    · left; rw [if_neg hc]

theorem Bts.shapeW {w : World} {v : Value} {l : List Int} (h : Bts w v l) : ∃ a c, v = .slice a l.length c := by
  obtain ⟨a, c, _, _, rfl, _⟩ := h; exact ⟨_, _, rfl⟩

@[reducible] def zeroWC : Array Value := #[.int .i64 0, .int .i64 0, .int .u32 0, .slice none 0 0]

theorem zeroWC_cells {w w0 w' : World} {t : TypeId} (h : w0 = w.alloc (.cells zeroWC t)) (hb : Below w0.heap.size w0 w') :
    (w'.cell? ⟨w.heap.size, 0, none⟩ = some (.int .i64 0) ∧ w'.cell? ⟨w.heap.size, 1, none⟩ = some (.int .i64 0) ∧ w'.cell? ⟨w.heap.size, 2, none⟩ = some (.int .u32 0) ∧ w'.cell? ⟨w.heap.size, 3, none⟩ = some (.slice none 0 0)) ∧ ∀ i, w'.frozen? ⟨w.heap.size, i, none⟩ = false := by
  subst h
  have hc : ∀ i v, zeroWC[i]? = some v → w'.cell? ⟨w.heap.size, i, none⟩ = some v := by
    intro i v hv
    refine cell_later hb ?_
    rw [World.cell?_alloc_mark w zeroWC t (0, 0) i]; exact hv
  refine ⟨⟨hc 0 _ rfl, hc 1 _ rfl, hc 2 _ rfl, hc 3 _ rfl⟩, fun i => ?_⟩
  rw [hb.frozen (by simp), World.frozen?_alloc_mark w zeroWC t 0 0 i]; simp

/-- A message laid into the four cells of block n. -/
@[reducible] def laidW (w : World) (n : Nat) (m : Wd) (vd : Value) : World :=
  (((w.setCell ⟨n, 0, none⟩ (.int .i64 m.type)).setCell ⟨n, 1, none⟩ (.int .i64 m.code)).setCell ⟨n, 2, none⟩ (.int .u32 m.rest)).setCell ⟨n, 3, none⟩ vd

theorem laidW_below {w w' : World} {n : Nat} (h : Below n w w') (m : Wd) (vd : Value) : Below n w (laidW w' n m vd) := by
  have hle : n ≤ n := Nat.le_refl _
  exact ((((h.setCell hle _).setCell hle _).setCell hle _).setCell hle _)

theorem laidW_owns {w : World} {n base : Nat} {v : Value} {l : List Int} (h : Owns w base v l) (hn : n < base) (m : Wd) (vd : Value) : Owns (laidW w n m vd) base v l :=
  ((((h.store hn _).store hn _).store hn _).store hn _)

theorem laidW_cells {w w0 w' : World} {t : TypeId} (h : w0 = w.alloc (.cells zeroWC t)) (hb : Below w0.heap.size w0 w') (m : Wd) (vd : Value) :
    (laidW w' w.heap.size m vd).cell? ⟨w.heap.size, 0, none⟩ = some (.int .i64 m.type) ∧ (laidW w' w.heap.size m vd).cell? ⟨w.heap.size, 1, none⟩ = some (.int .i64 m.code) ∧ (laidW w' w.heap.size m vd).cell? ⟨w.heap.size, 2, none⟩ = some (.int .u32 m.rest) ∧ (laidW w' w.heap.size m vd).cell? ⟨w.heap.size, 3, none⟩ = some vd := by
  obtain ⟨⟨c0, c1, c2, c3⟩, -⟩ := zeroWC_cells h hb
  refine ⟨?_, ?_, ?_, ?_⟩
  · simp [go_sem, c0]
  · simp [go_sem, c1]
  · simp [go_sem, c2]
  · simp [go_sem, c3]

theorem wparse_short (a : Option Addr) (len cap : Nat) (w : World) (h : len < 8) :
    Calls Try.prog 62 #[.slice a len cap] w fun e w' => e = .returned (.tuple #[wdV Wd.zero (.slice none 0 0), .int .i64 2]) ∧ Below w.heap.size w w' := by
  have h' : (len : Int) < 8 := by omega
  go_enter Try.func62, Try.ntmps62
  go_wp2
  refine bodyPost_ret (v := .tuple #[wdV Wd.zero (.slice none 0 0), .int .i64 2]) ?_ rfl ?_
  · simp [results, Try.results62, go_sem, Wd.zero]
  exact ⟨rfl, below_alloc _ _⟩

set_option maxHeartbeats 2000000 in
theorem wparse_sum (b off len cap : Nat) (l : List Int) (w : World) (hA : At w b off len cap l) (hl : len ≤ 1099511627776) (g1 : 8 ≤ len) (h : fold16 (ws l) ≠ 65535) :
    Calls Try.prog 62 #[.slice (some ⟨b, off, none⟩) len cap] w fun e w' => e = .returned (.tuple #[wdV Wd.zero (.slice none 0 0), .int .i64 5]) ∧ Below w.heap.size w w' := by
  have h' : ¬ (len : Int) < 8 := by omega
  have hs : (fold16 (ws l) != 65535) = true := by rw [bne_iff_ne]; exact h
  have HL : Hid (l.length = len) := hA.len
  clear h
  go_enter Try.func62, Try.ntmps62
  go_wp2_with fail
  refine (sum_one (w.alloc (.cells zeroWC 87)) _ _ l 23 (by simp) (hA.later (below_alloc _ _)).bts (by rw [HL.out]; exact hl)).mono ?_
  rintro e w1 ⟨rfl, hw1⟩
  have hb1 : Below (w.alloc (.cells zeroWC 87)).heap.size (w.alloc (.cells zeroWC 87)) w1 := by rw [hw1]; exact below_alloc _ _
  obtain ⟨⟨c0, c1, c2, c3⟩, hfz⟩ := zeroWC_cells rfl hb1
  have bel := laidW_below (below_trans (below_alloc _ _) hb1) Wd.zero (.slice none 0 0)
  clear hw1 hb1
  go_wp2
  refine bodyPost_ret (v := .tuple #[wdV Wd.zero (.slice none 0 0), .int .i64 5]) ?_ rfl ?_
  · simp [results, Try.results62, go_sem, c0, c1, c2, c3, Wd.zero]
  exact ⟨rfl, bel⟩

theorem wparse_no (a : Option Addr) (b off len cap : Nat) (l : List Int) (w : World) (ha : a = some ⟨b, off, none⟩ ∨ l = []) (hA : At w b off len cap l) (hl : len ≤ 1099511627776) (h : ¬ parseW l = 0) :
    Calls Try.prog 62 #[.slice a len cap] w fun e w' => e = .returned (.tuple #[wdV Wd.zero (.slice none 0 0), .int .i64 (parseW l)]) ∧ Below w.heap.size w w' := by
  have hL := hA.len
  obtain ⟨E, hE⟩ : ∃ E, parseW l = E := ⟨_, rfl⟩
  rw [hE] at h ⊢
  unfold parseW at hE
  by_cases g1 : l.length < 8
  · rw [if_pos g1] at hE; subst hE; exact wparse_short a len cap w (by omega)
  rw [if_neg g1] at hE
  rcases ha with rfl | rfl
  case inr => simp at g1
  by_cases g2 : fold16 (ws l) ≠ 65535
  · rw [if_pos g2] at hE; subst hE; exact wparse_sum b off len cap l w hA hl (by omega) g2
  rw [if_neg g2] at hE
  exact absurd hE.symm h

theorem drop_all (l : List Int) (p : Nat) : (l.drop p).take (l.length - p) = l.drop p := by
  rw [List.take_of_length_le]; simp

set_option maxHeartbeats 8000000 in
theorem wparse_own (b off len cap : Nat) (l : List Int) (w : World) (hA : At w b off len cap l) (hl : len ≤ 1099511627776) (g : WGood l) :
    Calls Try.prog 62 #[.slice (some ⟨b, off, none⟩) len cap] w fun e w' =>
      ∃ a1 k1, e = .returned (.tuple #[wdV (wdOf l) (.slice a1 (wdOf l).data.length k1), .int .i64 0]) ∧ Owns w' w.heap.size (.slice a1 (wdOf l).data.length k1) (wdOf l).data ∧ Below w.heap.size w w' := by
  have hL := hA.len
  have hc := hA.cap1
  have g1 := g.a
  rw [hL] at g1
  have h' : ¬ (len : Int) < 8 := by omega
  have hs : (fold16 (ws l) != 65535) = false := by rw [g.e]; rfl
  obtain ⟨V1, hsl1, ho1⟩ := wslice_from b off len cap 8 8 rfl g1 hc
  have HBL : Hid (isBytes l) := hA.bytes
  have HLL : Hid (l.length = len) := hL
  obtain ⟨x0, y0⟩ := b1_bd l hA.bytes 0
  obtain ⟨x1, y1⟩ := b1_bd l hA.bytes 1
  obtain ⟨x4, y4⟩ := w4_bd l hA.bytes 4
  have v0 : IntKind.i64.wrap (b1 l 0) = b1 l 0 := i64_id _ x0 (by omega)
  have v1 : IntKind.i64.wrap (b1 l 1) = b1 l 1 := i64_id _ x1 (by omega)
  have v4 : IntKind.u32.wrap (w4 l 4) = w4 l 4 := u32_id _ x4 (by omega)
  clear g hL
  go_enter Try.func62, Try.ntmps62
  go_wp2_with fail
  refine (sum_one (w.alloc (.cells zeroWC 87)) _ _ l 23 (by simp) (hA.later (below_alloc _ _)).bts (by rw [HLL.out]; exact hl)).mono ?_
  rintro e w1 ⟨rfl, hw1⟩
  have hb1 : Below (w.alloc (.cells zeroWC 87)).heap.size (w.alloc (.cells zeroWC 87)) w1 := by rw [hw1]; exact below_alloc _ _
  have hb0 : Below w.heap.size w w1 := below_trans (below_alloc _ _) hb1
  have hA1 := hA.later hb0
  have HW : Hid (Below (w.alloc (.cells zeroWC 87)).heap.size (w.alloc (.cells zeroWC 87)) w1) := hb1
  have hsz := hb1.size
  simp only [World.size_alloc] at hsz
  clear hb1 hw1
  go_wp2_with fail
  go_region_held3 (fun w' => True) (first | trivial | go_keep)
    (first
      | (go_at_call_of 72 (Value.int .i64 4); refine (wnumber4 b off len cap l 4 4 _ (hA1.later (Below.refl _ _).drew) rfl (by omega)).mono ?_; rintro e w2' ⟨rfl, hw2⟩; have hw2 := hw2.symm; subst hw2)
      | (go_at_call_of 72 (Value.int .i64 0); refine (wnumber1 b off len cap l 0 0 _ (hA1.later (Below.refl _ _).drew) rfl (by omega)).mono ?_; rintro e w2' ⟨rfl, hw2⟩; have hw2 := hw2.symm; subst hw2)
      | (go_at_call_of 72 (Value.int .i64 1); refine (wnumber1 b off len cap l 1 1 _ (hA1.later (Below.refl _ _).drew) rfl (by omega)).mono ?_; rintro e w2' ⟨rfl, hw2⟩; have hw2 := hw2.symm; subst hw2)
      | (go_at_call_of 58 V1; refine (clone_part V1 b off len cap 8 len l _ ho1 (hA1.later (Below.refl _ _).drew) (by omega) (by omega) (by omega)).mono ?_; rintro e w3 ⟨v1', rfl, hv1, hb3'⟩; rw [← HLL.out, drop_all] at hv1; obtain ⟨a1, k1, rfl⟩ := Bts.shapeW (l := (wdOf l).data) (hv1.bts (isBytes_drop HBL.out _)); have hb3 : Below w1.heap.size w1 w3 := below_trans (Below.refl _ _).drew hb3'; obtain ⟨⟨c0, c1, c2, c3⟩, hfz⟩ := zeroWC_cells rfl (below_trans HW.out hb3)))
  have hlt : w.heap.size < w1.drew.heap.size := by show w.heap.size < w1.heap.size; omega
  have hB1 := laidW_owns hv1 hlt (wdOf l) (.slice a1 (wdOf l).data.length k1)
  have bel := laidW_below (below_trans hb0 hb3) (wdOf l) (.slice a1 (wdOf l).data.length k1)
  obtain ⟨r0, r1, r2, r3⟩ := laidW_cells rfl (below_trans HW.out hb3) (wdOf l) (.slice a1 (wdOf l).data.length k1)
  obtain ⟨W, hW⟩ : ∃ W, W = laidW w3 w.heap.size (wdOf l) (.slice a1 (wdOf l).data.length k1) := ⟨_, rfl⟩
  have hW' : ((((w3.setCell ⟨w.heap.size, 0, none⟩ (.int .i64 (b1 l 0))).setCell ⟨w.heap.size, 1, none⟩ (.int .i64 (b1 l 1))).setCell ⟨w.heap.size, 2, none⟩ (.int .u32 (w4 l 4))).setCell ⟨w.heap.size, 3, none⟩ (.slice a1 (wdOf l).data.length k1)) = W := hW.symm
  rw [hW']
  rw [← hW] at hB1 bel r0 r1 r2 r3
  clear hW hW' hv1 hb3 hb3' c0 c1 c2 c3 hfz
  go_wp2
  refine bodyPost_ret (v := .tuple #[wdV (wdOf l) (.slice a1 (wdOf l).data.length k1), .int .i64 0]) ?_ rfl ?_
  · simp [results, Try.results62, go_sem, r0, r1, r2, r3]
  exact ⟨_, _, rfl, hB1.low (by show w.heap.size ≤ w1.heap.size; omega), bel⟩

theorem wparse_ok (b off len cap : Nat) (l : List Int) (w : World) (hA : At w b off len cap l) (hl : len ≤ 1099511627776) (g : WGood l) :
    Calls Try.prog 62 #[.slice (some ⟨b, off, none⟩) len cap] w fun e w' =>
      ∃ a1 k1, e = .returned (.tuple #[wdV (wdOf l) (.slice a1 (wdOf l).data.length k1), .int .i64 0]) ∧ Bts w' (.slice a1 (wdOf l).data.length k1) (wdOf l).data ∧ Below w.heap.size w w' := by
  refine (wparse_own b off len cap l w hA hl g).mono ?_
  rintro e w' ⟨a1, k1, rfl, ho, hb⟩
  exact ⟨a1, k1, rfl, ho.bts (isBytes_drop hA.bytes _), hb⟩
end Go.Proofs.Ytdejjokgchbgnaa
