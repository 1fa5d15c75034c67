/- The contract of Parse. -/
import Derived.Test.YtdejjokgchbgnaaTcpParse
set_option maxRecDepth 100000
namespace Go.Proofs.Ytdejjokgchbgnaa
open Go.RowKit
attribute [local go_sem ↓] Go.wp_at_zero Go.wp_at_succ

theorem slice_from (b off len cap : Nat) (x : Int) (p : Nat) (hx : x = (p : Int)) (hp : p ≤ len) (hc : len ≤ cap) :
    ∃ V : Value, (∀ W, (Instr.slice 23 (.slice (some ⟨b, off, none⟩) len cap) (some (.int .i64 x)) none none).run Try.prog W = .ok V W) ∧ PartV V b off cap p len := by
  subst hx
  have ht' : Try.prog.underlying 23 = some (.slice (Try.prog.elem 23)) := by simp [Program.elem, Try.underlying23]
  have he : Try.prog.elem 23 = 5 := by simp [Program.elem, Try.underlying23]
  refine ⟨.slice (some ⟨b, if cap = p then off else off + p, none⟩) (len - p) (cap - p), fun W => ?_, _, rfl, ?_⟩
  · rw [run_slice_l W 23 _ _ _ ht' .i64 _ (by omega) (by omega), he, Try.sizeOf5]
    by_cases hc : cap = p
    · simp [Result.andThen, sliced, hc]
    · simp [Result.andThen, sliced, hc, add_at]
  · by_cases hc : cap = p
    · right; omega
    · left; rw [if_neg hc]

theorem Bts.shapeT {w : World} {v : Value} {l : List Int} (h : Bts w v l) : ∃ a c, v = .slice a l.length c := by
  obtain ⟨a, c, _, _, rfl, _⟩ := h; exact ⟨_, _, rfl⟩

@[reducible] def zeroTC : Array Value := #[.int .i64 0, .int .i64 0, .int .u32 0, .int .u32 0, .int .i64 0, .int .i64 0, .int .i64 0, .slice none 0 0, .slice none 0 0]

theorem zeroT_cells {w w0 w' : World} {t : TypeId} (h : w0 = w.alloc (.cells zeroTC t)) (hb : Below w0.heap.size w0 w') :
    (w'.cell? ⟨w.heap.size, 0, none⟩ = some (.int .i64 0) ∧ w'.cell? ⟨w.heap.size, 1, none⟩ = some (.int .i64 0) ∧ w'.cell? ⟨w.heap.size, 2, none⟩ = some (.int .u32 0) ∧ w'.cell? ⟨w.heap.size, 3, none⟩ = some (.int .u32 0) ∧ w'.cell? ⟨w.heap.size, 4, none⟩ = some (.int .i64 0) ∧
      w'.cell? ⟨w.heap.size, 5, none⟩ = some (.int .i64 0) ∧ w'.cell? ⟨w.heap.size, 6, none⟩ = some (.int .i64 0) ∧ w'.cell? ⟨w.heap.size, 7, none⟩ = some (.slice none 0 0) ∧ w'.cell? ⟨w.heap.size, 8, none⟩ = some (.slice none 0 0)) ∧ ∀ i, w'.frozen? ⟨w.heap.size, i, none⟩ = false := by
  subst h
  have hc : ∀ i v, zeroTC[i]? = some v → w'.cell? ⟨w.heap.size, i, none⟩ = some v := by
    intro i v hv
    refine cell_later hb ?_
    rw [World.cell?_alloc_mark w zeroTC t (0, 0) i]; exact hv
  refine ⟨⟨hc 0 _ rfl, hc 1 _ rfl, hc 2 _ rfl, hc 3 _ rfl, hc 4 _ rfl, hc 5 _ rfl, hc 6 _ rfl, hc 7 _ rfl, hc 8 _ rfl⟩, fun i => ?_⟩
  rw [hb.frozen (by simp), World.frozen?_alloc_mark w zeroTC t 0 0 i]; simp

/-- A segment laid into the nine cells of block n. -/
@[reducible] def laidT (w : World) (n : Nat) (p : Pc) (vo vd : Value) : World :=
  ((((((((w.setCell ⟨n, 0, none⟩ (.int .i64 p.src)).setCell ⟨n, 1, none⟩ (.int .i64 p.dst)).setCell ⟨n, 2, none⟩ (.int .u32 p.seq)).setCell ⟨n, 3, none⟩ (.int .u32 p.ack)).setCell ⟨n, 4, none⟩ (.int .i64 p.flags)).setCell ⟨n, 5, none⟩ (.int .i64 p.window)).setCell ⟨n, 6, none⟩ (.int .i64 p.urgent)).setCell ⟨n, 7, none⟩ vo).setCell ⟨n, 8, none⟩ vd

theorem laidT_below {w w' : World} {n : Nat} (h : Below n w w') (p : Pc) (vo vd : Value) : Below n w (laidT w' n p vo vd) := by
  have hle : n ≤ n := Nat.le_refl _
  exact (((((((((h.setCell hle _).setCell hle _).setCell hle _).setCell hle _).setCell hle _).setCell hle _).setCell hle _).setCell hle _).setCell hle _)

theorem laidT_owns {w : World} {n base : Nat} {v : Value} {l : List Int} (h : Owns w base v l) (hn : n < base) (p : Pc) (vo vd : Value) : Owns (laidT w n p vo vd) base v l :=
  (((((((((h.store hn _).store hn _).store hn _).store hn _).store hn _).store hn _).store hn _).store hn _).store hn _)

theorem laidT_cells {w w0 w' : World} {t : TypeId} (h : w0 = w.alloc (.cells zeroTC t)) (hb : Below w0.heap.size w0 w') (p : Pc) (vo vd : Value) :
    (laidT w' w.heap.size p vo vd).cell? ⟨w.heap.size, 0, none⟩ = some (.int .i64 p.src) ∧ (laidT w' w.heap.size p vo vd).cell? ⟨w.heap.size, 1, none⟩ = some (.int .i64 p.dst) ∧ (laidT w' w.heap.size p vo vd).cell? ⟨w.heap.size, 2, none⟩ = some (.int .u32 p.seq) ∧ (laidT w' w.heap.size p vo vd).cell? ⟨w.heap.size, 3, none⟩ = some (.int .u32 p.ack) ∧ (laidT w' w.heap.size p vo vd).cell? ⟨w.heap.size, 4, none⟩ = some (.int .i64 p.flags) ∧
      (laidT w' w.heap.size p vo vd).cell? ⟨w.heap.size, 5, none⟩ = some (.int .i64 p.window) ∧ (laidT w' w.heap.size p vo vd).cell? ⟨w.heap.size, 6, none⟩ = some (.int .i64 p.urgent) ∧ (laidT w' w.heap.size p vo vd).cell? ⟨w.heap.size, 7, none⟩ = some vo ∧ (laidT w' w.heap.size p vo vd).cell? ⟨w.heap.size, 8, none⟩ = some vd := by
  obtain ⟨⟨c0, c1, c2, c3, c4, c5, c6, c7, c8⟩, -⟩ := zeroT_cells h hb
  refine ⟨?_, ?_, ?_, ?_, ?_, ?_, ?_, ?_, ?_⟩
  · simp [go_sem, c0]
  · simp [go_sem, c1]
  · simp [go_sem, c2]
  · simp [go_sem, c3]
  · simp [go_sem, c4]
  · simp [go_sem, c5]
  · simp [go_sem, c6]
  · simp [go_sem, c7]
  · simp [go_sem, c8]

set_option maxHeartbeats 2000000 in
theorem tparse_no (s d : Int) (a : Option Addr) (b off len cap : Nat) (l : List Int) (w : World) (s0 : 0 ≤ s) (s1 : s < 4294967296) (t0 : 0 ≤ d) (t1 : d < 4294967296) (ha : a = some ⟨b, off, none⟩ ∨ l = []) (hA : At w b off len cap l) (hl : len ≤ 70000) (h : ¬ parseT s d l = 0) :
    Calls Try.prog 61 #[.int .u32 s, .int .u32 d, .slice a len cap] w fun e w' => e = .returned (.tuple #[pcV Pc.zero (.slice none 0 0) (.slice none 0 0), .int .i64 (parseT s d l)]) ∧ Below w.heap.size w w' := by
  have HE : Hid (¬ parseT s d l = 0) := h
  obtain ⟨E, hEE⟩ : ∃ E, parseT s d l = E := ⟨_, rfl⟩
  have hne : (E != 0) = true := by rw [bne_iff_ne, ← hEE]; exact h
  rw [hEE]
  have HEE : Hid (parseT s d l = E) := hEE
  clear h hEE
  go_enter Try.func61, Try.ntmps61
  go_wp2_with fail
  refine (tmeas_no s d a b off len cap l _ s0 s1 t0 t1 ha (hA.later (below_alloc _ _)) hl HE.out).mono ?_
  rintro e w1 ⟨rfl, hb1⟩
  rw [HEE.out]
  obtain ⟨⟨c0, c1, c2, c3, c4, c5, c6, c7, c8⟩, hfz⟩ := zeroT_cells rfl hb1
  have bel := laidT_below (below_trans (below_alloc _ _) hb1) Pc.zero (.slice none 0 0) (.slice none 0 0)
  clear hb1
  go_wp2
  refine bodyPost_ret (v := .tuple #[pcV Pc.zero (.slice none 0 0) (.slice none 0 0), .int .i64 E]) ?_ rfl ?_
  · simp [results, Try.results61, go_sem, c0, c1, c2, c3, c4, c5, c6, c7, c8, Pc.zero]
  exact ⟨rfl, bel⟩

set_option maxHeartbeats 8000000 in
theorem tparse_own (s d : Int) (b off len cap : Nat) (l : List Int) (w : World) (s0 : 0 ≤ s) (s1 : s < 4294967296) (t0 : 0 ≤ d) (t1 : d < 4294967296) (hA : At w b off len cap l) (hl : len ≤ 70000) (g : TGood s d l) :
    Calls Try.prog 61 #[.int .u32 s, .int .u32 d, .slice (some ⟨b, off, none⟩) len cap] w fun e w' =>
      ∃ a1 k1 a2 k2, e = .returned (.tuple #[pcV (pcOf l) (.slice a1 (pcOf l).opts.length k1) (.slice a2 (pcOf l).data.length k2), .int .i64 0]) ∧ Owns w' w.heap.size (.slice a1 (pcOf l).opts.length k1) (pcOf l).opts ∧ Owns w' w.heap.size (.slice a2 (pcOf l).data.length k2) (pcOf l).data ∧ Below w.heap.size w w' := by
  have hL := hA.len
  have hc := hA.cap1
  have HG : Hid (TGood s d l) := g
  have g2 := g.b
  have g3 := g.c
  have g1 := g.a
  rw [hL] at g1 g3
  have i5 : (0 : Int) ≤ hdT l := by omega
  have i7 : hdT l ≤ (cap : Int) := by omega
  obtain ⟨V1, hsl1, ho1⟩ := slice_part b off len cap 20 (hdT l) 20 (hdT l).toNat rfl (by omega) (by omega) (by omega)
  obtain ⟨V2, hsl2, ho2⟩ := slice_from b off len cap (hdT l) (hdT l).toNat (by omega) (by omega) hc
  have HBL : Hid (isBytes l) := hA.bytes
  have HLL : Hid (l.length = len) := hL
  obtain ⟨x0, y0⟩ := w2_bd l hA.bytes 0
  obtain ⟨x2, y2⟩ := w2_bd l hA.bytes 2
  obtain ⟨x4, y4⟩ := w4_bd l hA.bytes 4
  obtain ⟨x8, y8⟩ := w4_bd l hA.bytes 8
  obtain ⟨x12, y12⟩ := w2_bd l hA.bytes 12
  obtain ⟨x14, y14⟩ := w2_bd l hA.bytes 14
  obtain ⟨x18, y18⟩ := w2_bd l hA.bytes 18
  have hfl : bits .and .i64 (w2 l 12) 255 = b1 l 13 := by
    rw [← lead_flags l hA.bytes]
    exact mask_i64 8 (by decide) (w2 l 12) x12 (by omega)
  have v0 : IntKind.i64.wrap (w2 l 0) = w2 l 0 := i64_id _ x0 (by omega)
  have v2 : IntKind.i64.wrap (w2 l 2) = w2 l 2 := i64_id _ x2 (by omega)
  have v4 : IntKind.u32.wrap (w4 l 4) = w4 l 4 := u32_id _ x4 (by omega)
  have v8 : IntKind.u32.wrap (w4 l 8) = w4 l 8 := u32_id _ x8 (by omega)
  have v12 : IntKind.i64.wrap (w2 l 12) = w2 l 12 := i64_id _ x12 (by omega)
  have v14 : IntKind.i64.wrap (w2 l 14) = w2 l 14 := i64_id _ x14 (by omega)
  have v18 : IntKind.i64.wrap (w2 l 18) = w2 l 18 := i64_id _ x18 (by omega)
  clear g hL
  go_enter Try.func61, Try.ntmps61
  go_wp2_with fail
  refine (tmeas_yes s d b off len cap l _ s0 s1 t0 t1 (hA.later (below_alloc _ _)) hl HG.out).mono ?_
  rintro e w1 ⟨rfl, hb1⟩
  have hb0 : Below w.heap.size w w1 := below_trans (below_alloc _ _) hb1
  have hA1 := hA.later hb0
  have HW : Hid (Below (w.alloc (.cells zeroTC 69)).heap.size (w.alloc (.cells zeroTC 69)) w1) := hb1
  have hsz := hb1.size
  simp only [World.size_alloc] at hsz
  clear hb1
  go_wp2_with fail
  go_region_held3 (fun w' => True) (first | trivial | go_keep)
    (first
      | (go_at_call_of 71 (Value.int .i64 0); refine (tnumber2 b off len cap l 0 0 _ (hA1.later (Below.refl _ _).drew) rfl (by omega)).mono ?_; rintro e w2' ⟨rfl, hw2⟩; have hw2 := hw2.symm; subst hw2)
      | (go_at_call_of 71 (Value.int .i64 12); refine (tnumber2 b off len cap l 12 12 _ (hA1.later (Below.refl _ _).drew) rfl (by omega)).mono ?_; rintro e w2' ⟨rfl, hw2⟩; have hw2 := hw2.symm; subst hw2)
      | (go_at_call_of 71 (Value.int .i64 14); refine (tnumber2 b off len cap l 14 14 _ (hA1.later (Below.refl _ _).drew) rfl (by omega)).mono ?_; rintro e w2' ⟨rfl, hw2⟩; have hw2 := hw2.symm; subst hw2)
      | (go_at_call_of 71 (Value.int .i64 18); refine (tnumber2 b off len cap l 18 18 _ (hA1.later (Below.refl _ _).drew) rfl (by omega)).mono ?_; rintro e w2' ⟨rfl, hw2⟩; have hw2 := hw2.symm; subst hw2)
      | (go_at_call_of 71 (Value.int .i64 8); refine (tnumber4 b off len cap l 8 8 _ (hA1.later (Below.refl _ _).drew) rfl (by omega)).mono ?_; rintro e w2' ⟨rfl, hw2⟩; have hw2 := hw2.symm; subst hw2)
      | (go_at_call_of 71 (Value.int .i64 2); refine (tnumber2 b off len cap l 2 2 _ (hA1.later (Below.refl _ _).drew) rfl (by omega)).mono ?_; rintro e w2' ⟨rfl, hw2⟩; have hw2 := hw2.symm; subst hw2)
      | (go_at_call_of 71 (Value.int .i64 4); refine (tnumber4 b off len cap l 4 4 _ (hA1.later (Below.refl _ _).drew) rfl (by omega)).mono ?_; rintro e w2' ⟨rfl, hw2⟩; have hw2 := hw2.symm; subst hw2)
      | (go_at_call_of 58 V1; refine (clone_part V1 b off len cap 20 (hdT l).toNat l _ ho1 (hA1.later (Below.refl _ _).drew) (by omega) (by omega) (by omega)).mono ?_; rintro e w3 ⟨v1, rfl, hv1, hb3'⟩; obtain ⟨a1, k1, rfl⟩ := Bts.shapeT (l := (pcOf l).opts) (hv1.bts (isBytes_part l HBL.out _ _)); have hb3 : Below w1.heap.size w1 w3 := below_trans (Below.refl _ _).drew hb3')
      | (go_at_call_of 58 V2; refine (clone_part V2 b off len cap (hdT l).toNat len l _ ho2 (hA1.later hb3) (by omega) (by omega) (by omega)).mono ?_; rintro e w4' ⟨v2, rfl, hv2, hb4'⟩; rw [← HLL.out] at hv2; obtain ⟨a2, k2, rfl⟩ := Bts.shapeT (l := (pcOf l).data) (hv2.bts (isBytes_part l HBL.out _ _)); have hb4 := below_trans hb3 hb4'; obtain ⟨⟨c0, c1, c2, c3, c4, c5, c6, c7, c8⟩, hfz⟩ := zeroT_cells rfl (below_trans HW.out hb4)))
  have hlt : w.heap.size < w1.drew.heap.size := by show w.heap.size < w1.heap.size; omega
  have hlt2 : w.heap.size < w3.heap.size := by have := hb3.size; omega
  have hB1 := laidT_owns (hv1.later hb4') hlt (pcOf l) (.slice a1 (pcOf l).opts.length k1) (.slice a2 (pcOf l).data.length k2)
  have hB2 := laidT_owns hv2 hlt2 (pcOf l) (.slice a1 (pcOf l).opts.length k1) (.slice a2 (pcOf l).data.length k2)
  have bel := laidT_below (below_trans hb0 hb4) (pcOf l) (.slice a1 (pcOf l).opts.length k1) (.slice a2 (pcOf l).data.length k2)
  obtain ⟨r0, r1, r2, r3, r4, r5, r6, r7, r8⟩ := laidT_cells rfl (below_trans HW.out hb4) (pcOf l) (.slice a1 (pcOf l).opts.length k1) (.slice a2 (pcOf l).data.length k2)
  obtain ⟨W, hW⟩ : ∃ W, W = laidT w4' w.heap.size (pcOf l) (.slice a1 (pcOf l).opts.length k1) (.slice a2 (pcOf l).data.length k2) := ⟨_, rfl⟩
  have hW' : (((((((((w4'.setCell ⟨w.heap.size, 0, none⟩ (.int .i64 (w2 l 0))).setCell ⟨w.heap.size, 1, none⟩ (.int .i64 (w2 l 2))).setCell ⟨w.heap.size, 2, none⟩ (.int .u32 (w4 l 4))).setCell ⟨w.heap.size, 3, none⟩ (.int .u32 (w4 l 8))).setCell ⟨w.heap.size, 4, none⟩ (.int .i64 (b1 l 13))).setCell ⟨w.heap.size, 5, none⟩ (.int .i64 (w2 l 14))).setCell ⟨w.heap.size, 6, none⟩ (.int .i64 (w2 l 18))).setCell ⟨w.heap.size, 7, none⟩ (.slice a1 (pcOf l).opts.length k1)).setCell ⟨w.heap.size, 8, none⟩ (.slice a2 (pcOf l).data.length k2)) = W := hW.symm
  rw [hW']
  rw [← hW] at hB1 hB2 bel r0 r1 r2 r3 r4 r5 r6 r7 r8
  clear hW hW' c0 c1 c2 c3 c4 c5 c6 c7 c8 hfz hv1 hv2 hb3 hb3' hb4 hb4' hb0 hA hA1 hsl1 ho1 hsl2 ho2 HW
  go_wp2
  refine bodyPost_ret (v := .tuple #[pcV (pcOf l) (.slice a1 (pcOf l).opts.length k1) (.slice a2 (pcOf l).data.length k2), .int .i64 0]) ?_ rfl ?_
  · simp [results, Try.results61, go_sem, r0, r1, r2, r3, r4, r5, r6, r7, r8]
  exact ⟨_, _, _, _, rfl, hB1.low (Nat.le_of_lt hlt), hB2.low (Nat.le_of_lt hlt2), bel⟩

theorem tparse_ok (s d : Int) (b off len cap : Nat) (l : List Int) (w : World) (s0 : 0 ≤ s) (s1 : s < 4294967296) (t0 : 0 ≤ d) (t1 : d < 4294967296) (hA : At w b off len cap l) (hl : len ≤ 70000) (g : TGood s d l) :
    Calls Try.prog 61 #[.int .u32 s, .int .u32 d, .slice (some ⟨b, off, none⟩) len cap] w fun e w' =>
      ∃ a1 k1 a2 k2, e = .returned (.tuple #[pcV (pcOf l) (.slice a1 (pcOf l).opts.length k1) (.slice a2 (pcOf l).data.length k2), .int .i64 0]) ∧ Bts w' (.slice a1 (pcOf l).opts.length k1) (pcOf l).opts ∧ Bts w' (.slice a2 (pcOf l).data.length k2) (pcOf l).data ∧ Below w.heap.size w w' := by
  refine (tparse_own s d b off len cap l w s0 s1 t0 t1 hA hl g).mono ?_
  rintro e w' ⟨a1, k1, a2, k2, rfl, ho, hd, hb⟩
  exact ⟨a1, k1, a2, k2, rfl, ho.bts (isBytes_part l hA.bytes _ _), hd.bts (isBytes_part l hA.bytes _ _), hb⟩

theorem tparse_ok' (s d : Int) (b off len cap : Nat) (l : List Int) (p : Pc) (w : World) (s0 : 0 ≤ s) (s1 : s < 4294967296) (t0 : 0 ≤ d) (t1 : d < 4294967296) (hA : At w b off len cap l) (hl : len ≤ 70000) (g : TGood s d l) (hp : pcOf l = p) :
    Calls Try.prog 61 #[.int .u32 s, .int .u32 d, .slice (some ⟨b, off, none⟩) len cap] w fun e w' =>
      ∃ a1 k1 a2 k2, e = .returned (.tuple #[pcV p (.slice a1 p.opts.length k1) (.slice a2 p.data.length k2), .int .i64 0]) ∧ Bts w' (.slice a1 p.opts.length k1) p.opts ∧ Bts w' (.slice a2 p.data.length k2) p.data ∧ Below w.heap.size w w' := by
  subst hp; exact tparse_ok s d b off len cap l w s0 s1 t0 t1 hA hl g
end Go.Proofs.Ytdejjokgchbgnaa
