/- UdpBack: for all datagrams between two addresses, bytes behind and other addresses the call returns true: what was built is read back, whatever stands behind; between other addresses only as the sum lets it. No condition. -/
import Derived.Test.YtijoahehgfpomaaUdpAwake
import Derived.Test.YtijoahehgfpomaaUdpParse
namespace Go.Proofs.Ytijoahehgfpomaa.udpBack
open Go.ChangeShapes Go.WideShapes Go.ChangeAt Go.RowKit
attribute [local go_sem ↓] Go.wp_at_zero Go.wp_at_succ

theorem boxesS {w w' : World} {s d : Int} {u : Ud} {vd : Value} {t : TypeId} (hb : Below (w.alloc (.cells (sentC s d u vd) t)).heap.size (w.alloc (.cells (sentC s d u vd) t)) w') :
    w'.cell? ⟨w.heap.size, 0, none⟩ = some (.int .u32 s) ∧ w'.cell? ⟨w.heap.size, 1, none⟩ = some (.int .u32 d) ∧ w'.cell? ⟨w.heap.size, 2, none⟩ = some (.int .i64 u.src) ∧ w'.cell? ⟨w.heap.size, 3, none⟩ = some (.int .i64 u.dst) ∧ w'.cell? ⟨w.heap.size, 4, none⟩ = some (.bool u.bare) ∧ w'.cell? ⟨w.heap.size, 5, none⟩ = some vd :=
  ⟨box_cell hb 0 _ rfl, box_cell hb 1 _ rfl, box_cell hb 2 _ rfl, box_cell hb 3 _ rfl, box_cell hb 4 _ rfl, box_cell hb 5 _ rfl⟩

theorem boxesU {w w' : World} {u : Ud} {vd : Value} {t : TypeId} (hb : Below (w.alloc (.cells (udC u vd) t)).heap.size (w.alloc (.cells (udC u vd) t)) w') :
    w'.cell? ⟨w.heap.size, 0, none⟩ = some (.int .i64 u.src) ∧ w'.cell? ⟨w.heap.size, 1, none⟩ = some (.int .i64 u.dst) ∧ w'.cell? ⟨w.heap.size, 2, none⟩ = some (.bool u.bare) ∧ w'.cell? ⟨w.heap.size, 3, none⟩ = some vd :=
  ⟨box_cell hb 0 _ rfl, box_cell hb 1 _ rfl, box_cell hb 2 _ rfl, box_cell hb 3 _ rfl⟩

set_option maxHeartbeats 1000000 in
theorem walk_big (s d : Int) (u : Ud) (a : Option Addr) (c : Nat) (am : Option Addr) (nm cm : Nat) (o : Int) (w : World) (h : 5000 < u.data.length ∨ 5000 < nm) :
    Calls Try.prog 6 #[sentV s d u (.slice a u.data.length c), .slice am nm cm, .int .u32 o] w fun e w' => e = .returned (.bool true) ∧ Below w.heap.size w w' := by
  by_cases h1 : (5000 : Int) < (u.data.length : Int)
  · clear h
    go_enter Try.func6, Try.ntmps6
    go_wp2_with fail
    refine (awake3_any _).mono ?_
    rintro e w1 ⟨rfl, hb1⟩
    obtain ⟨d0, d1, d2, d3, d4, d5⟩ := boxesS hb1
    go_wp2
    go_ret
    exact ⟨rfl, below_trans (below_alloc _ _) hb1⟩
  · have h2 : (5000 : Int) < (nm : Int) := by omega
    clear h
    go_enter Try.func6, Try.ntmps6
    go_wp2_with fail
    refine (awake3_any _).mono ?_
    rintro e w1 ⟨rfl, hb1⟩
    obtain ⟨d0, d1, d2, d3, d4, d5⟩ := boxesS hb1
    go_wp2
    go_ret
    exact ⟨rfl, below_trans (below_alloc _ _) hb1⟩

set_option maxHeartbeats 1000000 in
theorem walk_no (s d : Int) (u : Ud) (a : Option Addr) (c : Nat) (am : Option Addr) (nm cm : Nat) (o : Int) (w : World) (h1 : u.data.length ≤ 5000) (h2 : nm ≤ 5000) (hE : ¬ buildU u = 0) :
    Calls Try.prog 6 #[sentV s d u (.slice a u.data.length c), .slice am nm cm, .int .u32 o] w fun e w' => e = .returned (.bool true) ∧ Below w.heap.size w w' := by
  have h1' : ¬ (5000 : Int) < (u.data.length : Int) := by omega
  have h2' : ¬ (5000 : Int) < (nm : Int) := by omega
  have HE : Hid (¬ buildU u = 0) := hE
  obtain ⟨E, hEE⟩ : ∃ E, buildU u = E := ⟨_, rfl⟩
  have hne : (E != 0) = true := by rw [bne_iff_ne, ← hEE]; exact hE
  clear hE
  go_enter Try.func6, Try.ntmps6
  go_wp2_with fail
  refine (awake3_any _).mono ?_
  rintro e w1 ⟨rfl, hb1⟩
  obtain ⟨d0, d1, d2, d3, d4, d5⟩ := boxesS hb1
  go_wp2_with fail
  refine (ubuild_no s d u a c _ (by omega) HE.out).mono ?_
  rintro e w2' ⟨rfl, hb2⟩
  rw [hEE]
  clear d0 d1 d2 d3 d4 d5 hEE
  go_wp2
  go_ret
  exact ⟨rfl, below_trans (below_alloc _ _) (below_trans hb1 hb2)⟩

theorem uparse_own' (s d : Int) (b off len cap : Nat) (l : List Int) (u : Ud) (w : World) (s0 : 0 ≤ s) (s1 : s < 4294967296) (t0 : 0 ≤ d) (t1 : d < 4294967296) (hA : At w b off len cap l) (hl : len ≤ 70000) (g : UGood s d l) (hu : udOf l = u) :
    Calls Try.prog 11 #[.int .u32 s, .int .u32 d, .slice (some ⟨b, off, none⟩) len cap] w fun e w' =>
      ∃ a1 k1, e = .returned (.tuple #[udV u (.slice a1 u.data.length k1), .int .i64 0]) ∧ Owns w' w.heap.size (.slice a1 u.data.length k1) u.data ∧ Below w.heap.size w w' := by
  subst hu; exact uparse_own s d b off len cap l w s0 s1 t0 t1 hA hl g

/-- Whatever is read: its error. -/
theorem uparse_any (s d : Int) (b off len cap : Nat) (l : List Int) (w : World) (s0 : 0 ≤ s) (s1 : s < 4294967296) (t0 : 0 ≤ d) (t1 : d < 4294967296) (hA : At w b off len cap l) (hl : len ≤ 70000) :
    Calls Try.prog 11 #[.int .u32 s, .int .u32 d, .slice (some ⟨b, off, none⟩) len cap] w fun e w' =>
      ∃ u a1 n1 k1, e = .returned (.tuple #[udV u (.slice a1 n1 k1), .int .i64 (parseU s d l)]) ∧ Below w.heap.size w w' := by
  by_cases h : parseU s d l = 0
  · rw [h]
    refine (uparse_ok s d b off len cap l w s0 s1 t0 t1 hA hl (ugood_of s d l h)).mono ?_
    rintro e w' ⟨a1, k1, rfl, -, hb⟩
    exact ⟨_, _, _, _, rfl, hb⟩
  · refine (uparse_no s d (some ⟨b, off, none⟩) b off len cap l w s0 s1 t0 t1 (.inl rfl) hA hl h).mono ?_
    rintro e w' ⟨rfl, hb⟩
    exact ⟨_, _, _, _, rfl, hb⟩

theorem at_owns {w : World} {base g len cap : Nat} {l : List Int} (h : Owns w base (.slice (some ⟨g, 0, none⟩) len cap) l) (hb : isBytes l) : At w g 0 len cap l := by
  obtain ⟨a, cap', b, off, e, c1, c2, -, ha, hs⟩ := h.bts hb
  simp only [Value.slice.injEq] at e
  obtain ⟨rfl, rfl, rfl⟩ := e
  refine ⟨c1, c2, rfl, hb, ?_⟩
  rcases ha with ha | rfl
  · simp only [Option.some.injEq, Addr.mk.injEq, and_true] at ha
    obtain ⟨rfl, rfl⟩ := ha
    exact hs
  · intro i hi; simp at hi

/-- append of bytes behind a row of the call's own: no block but that row's is touched. -/
theorem append_far (W : World) (base : Nat) (v vm : Value) (l m : List Int) (hv : Owns W base v l) (hm : Bts W vm m) (hbase : base ≤ W.heap.size) (hlen : l.length + m.length ≤ 140737488351232) :
    ∃ v' w', (Builtin.append_ #[23, 23] 23 #[v, vm]).run Try.prog W = .ok v' w' ∧ Owns w' base v' (l ++ m) ∧ Below base W w' ∧ ∀ k, k < W.heap.size → some k ≠ v.ownBlock → w'.heap[k]? = W.heap[k]? := by
  obtain ⟨i0, hi, hz0, hz1, hz2⟩ := info_parts info5
  obtain ⟨a, cap, b, off, rfl, h2, h3, h4, h5, h6⟩ := hm
  have core : ∀ ad : Addr, (∀ j u, (m.map (Value.int .u8))[j]? = some u → W.cell? (ad.add j) = some u) →
      ∃ v' w', (Builtin.append_ #[23, 23] 23 #[v, .slice (some ad) m.length cap]).run Try.prog W = .ok v' w' ∧ Owns w' base v' (l ++ m) ∧ Below base W w' ∧ ∀ k, k < W.heap.size → some k ≠ v.ownBlock → w'.heap[k]? = W.heap[k]? := by
    intro ad hcs
    obtain ⟨v', w', hr, ho, hg, -⟩ := run_append_own (P := Try.prog) W base 23 23 5 i0 (.int .u8 0) 1 1 Try.underlying23 hi hz0 hz1 hz2 rfl (by decide) v l.length (l.map (Value.int .u8)) hv ad m.length cap (m.map (Value.int .u8)) (by simp) hcs (ones_cell m) (by unfold maxLen; omega) (by omega) hbase
    refine ⟨v', w', hr, ?_, (Below.refl _ _).grown hg hbase (fun k hk => (hv.lt k hk).1), hg.block⟩
    unfold Owns
    rw [List.map_append, List.length_append]
    exact ho
  rcases h5 with rfl | rfl
  · exact core ⟨b, off, none⟩ (cells_of_sees h6)
  · cases a with
    | some ad => exact core ad (fun j u hj => by simp at hj)
    | none =>
      refine ⟨v, W, ?_, by simpa using hv, Below.refl _ _, fun _ _ _ => rfl⟩
      rcases hv.2 with ⟨rfl, -⟩ | ⟨g, c', cur, rfl, -, -, hn, -⟩
      · simp [Builtin.append_, run_underlying Try.underlying23, sizeOf, typeInfo, hi, Builtin.lenOf, Builtin.firstCells]
      · simp [Builtin.append_, run_underlying Try.underlying23, sizeOf, typeInfo, hi, Builtin.lenOf, Builtin.firstCells, loadCells, storeCells, Result.andThen, hn]

@[reducible] def zeroO : Obj := .cells zeroUC 25

/-- The new variable's cells, wherever it was made. -/
def ZAt (w : World) (B : Nat) : Prop := (w.cell? ⟨B, 0, none⟩ = some (.int .i64 0) ∧ w.cell? ⟨B, 1, none⟩ = some (.int .i64 0) ∧ w.cell? ⟨B, 2, none⟩ = some (.bool false) ∧ w.cell? ⟨B, 3, none⟩ = some (.slice none 0 0)) ∧ ∀ i, w.frozen? ⟨B, i, none⟩ = false

theorem zat_new (w : World) : ZAt (w.alloc zeroO) w.heap.size := zeroU_cells (w := w) rfl (Below.refl _ _)

theorem ZAt.block {w w' : World} {B : Nat} (h : ZAt w B) (hb : w'.heap[B]? = w.heap[B]?) : ZAt w' B := by
  obtain ⟨⟨c0, c1, c2, c3⟩, hf⟩ := h
  refine ⟨⟨?_, ?_, ?_, ?_⟩, fun i => ?_⟩
  · rw [World.cell?_of_block (w := w) hb]; exact c0
  · rw [World.cell?_of_block (w := w) hb]; exact c1
  · rw [World.cell?_of_block (w := w) hb]; exact c2
  · rw [World.cell?_of_block (w := w) hb]; exact c3
  · rw [World.frozen?_of_block (w := w) hb]; exact hf i

theorem ZAt.lt {w : World} {B : Nat} (h : ZAt w B) : B < w.heap.size := World.block_lt_of_cell? w _ h.1.1

theorem ZAt.below {w w' : World} {B n : Nat} (h : ZAt w B) (hb : Below n w w') (hn : B < n) : ZAt w' B := h.block (hb.block B hn)

theorem copied (w3 Wc : World) (g cap len : Nat) (L m : List Int) (am : Option Addr) (cm : Nat) (hc : Below w3.heap.size w3 Wc) (hA : At w3 g 0 len cap L) (hM : Bts w3 (.slice am m.length cm) m) (hlen : len + m.length ≤ 100000) (hpos : 0 < len) :
    Calls Try.prog 16 #[.slice (some ⟨g, 0, none⟩) len cap] Wc fun e w4 => ∃ vc w5 wz gd capd gz capz, e = .returned vc ∧ Below Wc.heap.size Wc w4 ∧ Below w3.heap.size w3 w4 ∧
      (Builtin.append_ #[23, 23] 23 #[vc, .slice am m.length cm]).run Try.prog w4 = .ok (.slice (some ⟨gd, 0, none⟩) (len + m.length) capd) w5 ∧
      (Builtin.append_ #[23, 23] 23 #[vc, .slice am m.length cm]).run Try.prog (w4.alloc zeroO) = .ok (.slice (some ⟨gz, 0, none⟩) (len + m.length) capz) wz ∧
      Below w3.heap.size w3 w5 ∧ Below w3.heap.size w3 wz ∧ Hid (At w5 gd 0 (len + m.length) capd (L ++ m)) ∧ Hid (At wz gz 0 (len + m.length) capz (L ++ m)) ∧ Hid (ZAt wz w4.heap.size) ∧ Below Wc.heap.size w4 w5 := by
  have hL := hA.len
  refine (copy_any _ g 0 len cap L _ hA.cap1 hL (.inl rfl) (hA.sees.later hc) (by omega)).mono ?_
  rintro e w4 ⟨vc, rfl, hown, hb4'⟩
  have hb4 := below_trans hc hb4'
  obtain ⟨vd, w5, hrun, hown5, hb5, -⟩ := append_far w4 _ vc (.slice am m.length cm) L m hown (hM.later hb4) hb4'.size (by omega)
  obtain ⟨ve, wz, hrunZ, hownZ, hbZ, hfarZ⟩ := append_far (w4.alloc zeroO) _ vc (.slice am m.length cm) L m (World.ownsRow.alloc hown _) (hM.later (below_trans hb4 (below_alloc _ _))) (Nat.le_trans hb4'.size (below_alloc w4 zeroO).size) (by omega)
  have hb35 : Below w3.heap.size w3 w5 := hb4.trans (hb5.mono hc.size)
  have hb3z : Below w3.heap.size w3 wz := (below_trans hb4 (below_alloc _ _)).trans (hbZ.mono hc.size)
  have hlm : (L ++ m).length = len + m.length := by rw [List.length_append, hL]
  obtain ⟨gd, capd, rfl, -⟩ := holds8_of_owns (len := len + m.length) hown5 hlm (by omega)
  obtain ⟨gz, capz, rfl, -⟩ := holds8_of_owns (len := len + m.length) hownZ hlm (by omega)
  have hbm : isBytes (L ++ m) := isBytes_append hA.bytes hM.bytes
  exact ⟨vc, w5, wz, gd, capd, gz, capz, rfl, hb4', hb4, hrun, hrunZ, hb35, hb3z, at_owns hown5 hbm, at_owns hownZ hbm, (zat_new w4).block (hfarZ w4.heap.size (by simp) (fun e => Nat.lt_irrefl _ (hown.lt _ e.symm).2)), hb5⟩

theorem parsed (w w3 Wp : World) (g len cap : Nat) (s d : Int) (u : Ud) (vd : Value) (m : List Int) (s0 : 0 ≤ s) (s1 : s < 4294967296) (t0 : 0 ≤ d) (t1 : d < 4294967296) (h3 : Below w3.heap.size w3 Wp)
    (hx : Below (w.alloc (.cells (sentC s d u vd) 37)).heap.size (w.alloc (.cells (sentC s d u vd) 37)) Wp) (hA : At Wp g 0 len cap (builtU s d u ++ m)) (hl : len ≤ 70000) (f : UFits u) (hb : isBytes u.data) :
    Calls Try.prog 11 #[.int .u32 s, .int .u32 d, .slice (some ⟨g, 0, none⟩) len cap] Wp fun e w6 =>
      ∃ a1 k1, e = .returned (.tuple #[udV u (.slice a1 u.data.length k1), .int .i64 0]) ∧ Owns w6 Wp.heap.size (.slice a1 u.data.length k1) u.data ∧ Below Wp.heap.size Wp w6 ∧ Below w3.heap.size w3 w6 ∧
        Below (w.alloc (.cells (sentC s d u vd) 37)).heap.size (w.alloc (.cells (sentC s d u vd) 37)) w6 := by
  refine (uparse_own' s d g 0 len cap (builtU s d u ++ m) u _ s0 s1 t0 t1 hA hl (ugood_built s d u f hb m) (ud_built s d u f m)).mono ?_
  rintro e w6 ⟨a1, k1, rfl, hv1, hb6⟩
  exact ⟨a1, k1, rfl, hv1, hb6, below_trans h3 hb6, below_trans hx hb6⟩

theorem box_set4 {w w6 : World} {O : Obj} {B : Nat} (hx : Below (w.alloc O).heap.size (w.alloc O) w6) (hB : w.heap.size < B) (x0 x1 x2 x3 : Value) : Below (w.alloc O).heap.size (w.alloc O) ((((w6.setCell ⟨B, 0, none⟩ x0).setCell ⟨B, 1, none⟩ x1).setCell ⟨B, 2, none⟩ x2).setCell ⟨B, 3, none⟩ x3) := by
  have hle : (w.alloc O).heap.size ≤ B := by simp only [World.size_alloc]; omega
  exact ((((hx.setCell hle _).setCell hle _).setCell hle _).setCell hle _)

theorem zatC {w w6 : World} (h6 : Below (w.alloc zeroO).heap.size (w.alloc zeroO) w6) : ZAt w6 w.heap.size := (zat_new w).below h6 (by simp)

theorem zatA {w w4 w5 w6 : World} (h4 : Below (w.alloc zeroO).drew.heap.size (w.alloc zeroO).drew w4) (h5 : Below (w.alloc zeroO).drew.heap.size w4 w5) (h6 : Below w5.heap.size w5 w6) : ZAt w6 w.heap.size := by
  have hlt : w.heap.size < (w.alloc zeroO).drew.heap.size := by show w.heap.size < (w.alloc zeroO).heap.size; simp
  have h0 : ZAt (w.alloc zeroO).drew w.heap.size := (zat_new w).below (Below.refl (w.alloc zeroO).heap.size _).drew (by simp)
  have h := (h0.below h4 hlt).below h5 hlt
  exact h.below h6 h.lt

/-- What the statement knows behind its first reading, wherever its variable lies. -/
structure Read1 (w w3 W : World) (B : Nat) (s d : Int) (u : Ud) (vd v1 : Value) : Prop where
  box : Below (w.alloc (.cells (sentC s d u vd) 37)).heap.size (w.alloc (.cells (sentC s d u vd) 37)) W
  bel : Below w3.heap.size w3 W
  c0 : W.cell? ⟨B, 0, none⟩ = some (.int .i64 u.src)
  c1 : W.cell? ⟨B, 1, none⟩ = some (.int .i64 u.dst)
  c2 : W.cell? ⟨B, 2, none⟩ = some (.bool u.bare)
  c3 : W.cell? ⟨B, 3, none⟩ = some v1
  own : Bts W v1 u.data

theorem read1_set {w w3 w6 : World} {B base : Nat} {s d : Int} {u : Ud} {vd v1 : Value} (hb : isBytes u.data) (hx : Below (w.alloc (.cells (sentC s d u vd) 37)).heap.size (w.alloc (.cells (sentC s d u vd) 37)) w6)
    (h3 : Below w3.heap.size w3 w6) (hw3 : w.heap.size < w3.heap.size) (hB : w3.heap.size ≤ B) (hlt : B < base) (hv : Owns w6 base v1 u.data) (hZ : ZAt w6 B) : ∃ W, W = (((w6.setCell ⟨B, 0, none⟩ (.int .i64 u.src)).setCell ⟨B, 1, none⟩ (.int .i64 u.dst)).setCell ⟨B, 2, none⟩ (.bool u.bare)).setCell ⟨B, 3, none⟩ v1 ∧ Read1 w w3 W B s d u vd v1 := by
  obtain ⟨⟨c0, c1, c2, c3⟩, -⟩ := hZ
  have hle : (w.alloc (.cells (sentC s d u vd) 37)).heap.size ≤ B := by simp only [World.size_alloc]; omega
  refine ⟨_, rfl, ⟨((((hx.setCell hle _).setCell hle _).setCell hle _).setCell hle _), ((((h3.setCell hB _).setCell hB _).setCell hB _).setCell hB _), ?_, ?_, ?_, ?_, ?_⟩⟩
  · simp [go_sem, c0]
  · simp [go_sem, c1]
  · simp [go_sem, c2]
  · simp [go_sem, c3]
  · exact ((((hv.store hlt _).store hlt _).store hlt _).store hlt _).bts hb

theorem read1_new {w w3 w6 : World} {base : Nat} {s d : Int} {u : Ud} {vd v1 : Value} (hb : isBytes u.data) (hx : Below (w.alloc (.cells (sentC s d u vd) 37)).heap.size (w.alloc (.cells (sentC s d u vd) 37)) w6)
    (h3 : Below w3.heap.size w3 w6) (hv : Owns w6 base v1 u.data) : ∃ W, W = w6.alloc (.cells (udC u v1) 25) ∧ Read1 w w3 W w6.heap.size s d u vd v1 := by
  have bx := below_alloc w6 (.cells (udC u v1) 25)
  obtain ⟨c0, c1, c2, c3⟩ := boxesU (w := w6) (Below.refl _ (w6.alloc (.cells (udC u v1) 25)))
  exact ⟨_, rfl, ⟨below_trans hx bx, below_trans h3 bx, c0, c1, c2, c3, (hv.bts hb).later bx⟩⟩

set_option maxHeartbeats 40000000 in
theorem walk_ok (s d : Int) (u : Ud) (a : Option Addr) (c : Nat) (am : Option Addr) (m : List Int) (cm : Nat) (o : Int) (w : World) (s0 : 0 ≤ s) (s1 : s < 4294967296) (t0 : 0 ≤ d) (t1 : d < 4294967296) (o0 : 0 ≤ o) (o1 : o < 4294967296) (hD : Bts w (.slice a u.data.length c) u.data) (hM : Bts w (.slice am m.length cm) m) (h2 : m.length ≤ 5000) (f : UFits u) :
    Calls Try.prog 6 #[sentV s d u (.slice a u.data.length c), .slice am m.length cm, .int .u32 o] w fun e w' => e = .returned (.bool true) ∧ Below w.heap.size w w' := by
  have hlen := f.all
  have h1' : ¬ (5000 : Int) < (u.data.length : Int) := by omega
  have h2' : ¬ (5000 : Int) < (m.length : Int) := by omega
  have HF : Hid (UFits u) := f
  have HBd : Hid (isBytes u.data) := hD.bytes
  have HBm : Hid (isBytes m) := hM.bytes
  clear f
  go_enter Try.func6, Try.ntmps6
  go_wp2_with fail
  refine (awake3_any _).mono ?_
  rintro e w1 ⟨rfl, hb1⟩
  obtain ⟨d0, d1, d2, d3, d4, d5⟩ := boxesS hb1
  have hbw := below_trans (below_alloc w (.cells (sentC s d u (.slice a u.data.length c)) 37)) hb1
  go_wp2_with fail
  refine (ubuild_ok s d u a c _ s0 s1 t0 t1 HF.out (hD.later hbw)).mono ?_
  rintro e w3 ⟨v, rfl, hF, hb3⟩
  obtain ⟨g, cap, rfl, hge, q2, q3, q4, q5, q6⟩ := hF
  have hA3 : At w3 g 0 (builtU s d u).length cap (builtU s d u) := ⟨q2, q3, rfl, q4, q5⟩
  have HN : Hid ((builtU s d u).length = 8 + u.data.length) := builtU_length s d u
  rw [HN.out] at hA3 q2 ⊢
  have hx3 := below_trans hb1 hb3
  have hy3 := below_trans hbw hb3
  clear d0 d1 d2 d3 d4 d5 hb1 hb3 hbw q6 hge
  obtain ⟨d0, d1, -, -, -, -⟩ := boxesS hx3
  have hsz3 : w.heap.size < w3.heap.size := World.block_lt_of_cell? w3 _ d0
  have hM3 := hM.later hy3
  go_wp2_with fail
  go_region_held3 (fun w' => w'.cell? ⟨w.heap.size, 0, none⟩ = some (.int .u32 s) ∧ w'.cell? ⟨w.heap.size, 1, none⟩ = some (.int .u32 d)) (first | (exact ⟨box_cell (by with_reducible assumption) 0 _ rfl, box_cell (by with_reducible assumption) 1 _ rfl⟩) | (exact ⟨box_cell (by first | with_reducible exact below_trans hx6 (below_alloc _ _) | with_reducible exact below_trans hx5 (below_alloc _ _) | with_reducible exact below_trans hx4 (below_alloc _ _)) 0 _ rfl, box_cell (by first | with_reducible exact below_trans hx6 (below_alloc _ _) | with_reducible exact below_trans hx5 (below_alloc _ _) | with_reducible exact below_trans hx4 (below_alloc _ _)) 1 _ rfl⟩) | (exact ⟨box_cell (by with_reducible exact box_set4 hx6 (by with_reducible assumption) _ _ _ _) 0 _ rfl, box_cell (by with_reducible exact box_set4 hx6 (by with_reducible assumption) _ _ _ _) 1 _ rfl⟩) | (go_keep; done))
    (first
      | (go_at_call 16; refine (copied w3 _ g cap (8 + u.data.length) (builtU s d u) m am cm (by first | with_reducible exact (Below.refl _ _).drew | with_reducible exact below_trans (Below.refl _ _).drew (below_alloc _ _)) hA3 hM3 (by omega) (by omega)).mono ?_; rintro e w4 ⟨vc, w5, wz, gd, capd, gz, capz, rfl, hb4', hb4, hrun, hrunZ, hb35, hb3z, HA5, HAz, HZz, hb5⟩; have hx4 := below_trans hx3 hb4; have hx5 := below_trans hx3 hb35; have hxz := below_trans hx3 hb3z; have hB4 : w.heap.size < w4.heap.size := Nat.lt_of_lt_of_le hsz3 hb4.size; have hB5 : w.heap.size < w5.heap.size := Nat.lt_of_lt_of_le hsz3 hb35.size)
      | (go_at_call_of 11 capz; refine (parsed w w3 _ gz (8 + u.data.length + m.length) capz s d u _ m s0 s1 t0 t1 (by exact hb3z) (by exact hxz) (by exact HAz.out) (by omega) HF.out HBd.out).mono ?_; rintro e w6 ⟨a1, k1, rfl, hv1, hb6, hb36, hx6⟩; obtain ⟨⟨c0, c1, c2, c3⟩, hfz⟩ := HZz.out.below hb6 HZz.out.lt)
      | (go_at_call_of 11 capd; refine (parsed w w3 _ gd (8 + u.data.length + m.length) capd s d u _ m s0 s1 t0 t1 (by first | with_reducible exact hb35 | with_reducible exact below_trans hb35 (below_alloc _ _)) (by first | with_reducible exact hx5 | with_reducible exact below_trans hx5 (below_alloc _ _)) (by first | with_reducible exact HA5.out | with_reducible exact HA5.out.later (below_alloc _ _)) (by omega) HF.out HBd.out).mono ?_; rintro e w6 ⟨a1, k1, rfl, hv1, hb6, hb36, hx6⟩; first | (have hz : ZAt w6 w5.heap.size := by with_reducible exact zatC hb6); obtain ⟨⟨c0, c1, c2, c3⟩, hfz⟩ := hz | (have hz : ZAt w6 w3.heap.size := by with_reducible exact zatA hb4' hb5 hb6); obtain ⟨⟨c0, c1, c2, c3⟩, hfz⟩ := hz | skip)
      | (refine step_append_run rfl _ _ 23 rfl vc (.slice am m.length cm) rfl rfl (by with_reducible exact hrunZ) ?_)
      | (refine step_append_run rfl _ _ 23 rfl vc (.slice am m.length cm) rfl rfl (by with_reducible exact hrun) ?_))
  obtain ⟨W, hW, R⟩ := read1_new HBd.out hx6 hb36 hv1
  rw [← hW]
  clear hW
  rotate_left
  obtain ⟨W, hW, R⟩ := read1_set HBd.out hx6 hb36 hsz3 hb35.size (by simp) hv1 ⟨⟨c0, c1, c2, c3⟩, hfz⟩
  rw [← hW]
  clear hW c0 c1 c2 c3 hfz
  rotate_left
  obtain ⟨W, hW, R⟩ := read1_set HBd.out hx6 hb36 hsz3 hb4.size HZz.out.lt hv1 ⟨⟨c0, c1, c2, c3⟩, hfz⟩
  rw [← hW]
  clear hW c0 c1 c2 c3 hfz
  rotate_left
  have hlt5 : w3.heap.size < w5.heap.size := by
    have q1 : (w3.alloc zeroO).drew.heap.size ≤ w4.heap.size := hb4'.size
    have q2 := hb5.size
    have q3 : (w3.alloc zeroO).drew.heap.size = w3.heap.size + 1 := by show (w3.alloc zeroO).heap.size = _; simp
    omega
  obtain ⟨W, hW, R⟩ := read1_set HBd.out hx6 hb36 hsz3 (Nat.le_refl _) hlt5 hv1 ⟨⟨c0, c1, c2, c3⟩, hfz⟩
  rw [← hW]
  clear hW c0 c1 c2 c3 hfz hlt5
  rotate_left
  all_goals
    obtain ⟨hxW, hbW, e0, e1, e2, e3, hvW⟩ := R
    have hAW := hA3.later hbW
    have hzW := below_trans hy3 hbW
    clear hx6 hb36 hv1 hb6 hb4' hb4 hrun hrunZ hb35 hb3z HA5 HAz HZz hb5 hx4 hx5 hxz hB4 hB5 hbW hx3 hy3 hM3 d0 d1 q2 q3 q4 q5
    obtain ⟨d0, d1, d2, d3, d4, d5⟩ := boxesS hxW
    go_wp2_with fail
    refine (uparse_any s o g 0 (8 + u.data.length) cap (builtU s d u) _ s0 s1 o0 o1 hAW (by omega)).mono ?_
    rintro e w7 ⟨u7, a7, n7, k7, rfl, hb7⟩
    have HOB : Hid (parseU s o (builtU s d u) = 0 ↔ (u.bare = true ∨ fold16 (ws (pseudoB s d 17 (8 + (u.data.length : Int)))) = fold16 (ws (pseudoB s o 17 (8 + (u.data.length : Int)))))) := other_built s d o u HF.out HBd.out
    generalize parseU s o (builtU s d u) = E at *
    have hx7 := below_trans hxW hb7
    clear d0 d1 d2 d3 d4 d5
    obtain ⟨d0, d1, d2, d3, d4, d5⟩ := boxesS hx7
    have hlt7 : w.heap.size < w7.heap.size := World.block_lt_of_cell? w7 _ d0
    have hp7 := below_alloc w7 (.cells (udC u7 (.slice a7 n7 k7)) 25)
    go_wp2_with fail
    refine (pseudo_any s d 17 (8 + (u.data.length : Int)) _ s0 s1 t0 t1).mono ?_
    rintro e w8 ⟨G8, rfl, hP8, hb8⟩
    clear d0 d1 d2 d3 d4 d5
    go_wp2_with fail
    refine (sum_one w8 _ _ (pseudoB s d 17 (8 + (u.data.length : Int))) 23 (by simp) hP8 (by rw [pseudo_length]; decide)).mono ?_
    rintro e w9 ⟨rfl, rfl⟩
    have hp8 := below_alloc w8 (.cells #[.slice (some ⟨G8, 0, none⟩) 12 12] 23)
    have h79 := below_trans hp7 (below_trans hb8 hp8)
    generalize (w8.alloc (.cells #[.slice (some ⟨G8, 0, none⟩) 12 12] 23)) = w9 at *
    have hx9 := below_trans hx7 h79
    have hW9 := below_trans hb7 h79
    clear hp7 hp8 hb8 hb7 h79 hP8 hx7 hlt7
    obtain ⟨d0, d1, d2, d3, d4, d5⟩ := boxesS hx9
    go_wp2_with fail
    refine (pseudo_any s o 17 (8 + (u.data.length : Int)) _ s0 s1 o0 o1).mono ?_
    rintro e w10 ⟨G10, rfl, hP10, hb10⟩
    clear d0 d1 d2 d3 d4 d5
    go_wp2_with fail
    refine (sum_one w10 _ _ (pseudoB s o 17 (8 + (u.data.length : Int))) 23 (by simp) hP10 (by rw [pseudo_length]; decide)).mono ?_
    rintro e w11 ⟨rfl, rfl⟩
    have hp10 := below_trans hb10 (below_alloc w10 (.cells #[.slice (some ⟨G10, 0, none⟩) 12 12] 23))
    generalize (w10.alloc (.cells #[.slice (some ⟨G10, 0, none⟩) 12 12] 23)) = w11 at *
    have hx11 := below_trans hx9 hp10
    have hW11 := below_trans hW9 hp10
    have hz11 := below_trans hzW hW11
    clear hp10 hb10 hP10 hx9 hW9
    generalize fold16 (ws (pseudoB s d 17 (8 + (u.data.length : Int)))) = P at *
    generalize fold16 (ws (pseudoB s o 17 (8 + (u.data.length : Int)))) = Q at *
    obtain ⟨d0, d1, d2, d3, d4, d5⟩ := boxesS hx11
    have f0 := cell_later hW11 e0
    have f1 := cell_later hW11 e1
    have f2 := cell_later hW11 e2
    have f3 := cell_later hW11 e3
    have q1 := hvW.later hW11
    have q2 := hD.later hz11
    clear e0 e1 e2 e3 hvW hW11 hx11 hxW hAW hzW
    go_wp2_with fail
    refine (usame_one u _ _ _ q1 q2).mono ?_
    rintro e w12 ⟨rfl, hb12⟩
    have g4 := cell_later hb12 d4
    have hz12 := below_trans hz11 hb12
    clear d0 d1 d2 d3 d4 d5 f0 f1 f2 f3 q1 q2 hb12 hz11
    cases hu : u.bare
    · rw [hu] at g4
      by_cases hPQ : P = Q
      · have hE : E = 0 := HOB.out.2 (.inr hPQ)
        subst hE hPQ
        clear HOB hu
        go_wp2
        go_ret
        exact ⟨rfl, hz12⟩
      · have hE : (E == 0) = false := by
          rw [beq_eq_false_iff_ne]
          intro h
          rcases HOB.out.1 h with h' | h'
          · rw [hu] at h'; cases h'
          · exact hPQ h'
        have hpq : (P == Q) = false := by rw [beq_eq_false_iff_ne]; exact hPQ
        clear HOB hu hPQ
        go_wp2
        go_ret
        exact ⟨rfl, hz12⟩
    · rw [hu] at g4
      have hE : E = 0 := HOB.out.2 (.inl hu)
      subst hE
      clear HOB hu
      go_wp2
      go_ret
      exact ⟨rfl, hz12⟩

theorem walk (v0 v1 v2 : Value) (w : World) (V0 : IsSent w v0) (V1 : IsBts w v1) (V2 : IsU32 w v2) :
    Calls Try.prog 6 #[v0, v1, v2] w fun e w' => e = .returned (.bool true) ∧ Below w.heap.size w w' := by
  obtain ⟨s, d, u, a, c, rfl, s0, s1, t0, t1, hD, -⟩ := V0
  obtain ⟨m, hM, -⟩ := V1
  obtain ⟨o, rfl, o0, o1⟩ := V2
  obtain ⟨am, cm, rfl⟩ := Bts.shapeL hM
  by_cases h1 : 5000 < u.data.length ∨ 5000 < m.length
  · exact walk_big s d u a c am m.length cm o w h1
  by_cases h2 : buildU u = 0
  · exact walk_ok s d u a c am m cm o w s0 s1 t0 t1 o0 o1 hD hM (by omega) (ufits_of u h2)
  · exact walk_no s d u a c am m.length cm o w (by omega) (by omega) h2

set_option maxRecDepth 100000 in
theorem lifted (os : Os) (started : os.Started) (H : Type) (enc : TypeId × Value → H) :
    ReturnsInHanded {} Try.checked os 6 .any (Rows.udpBackSpec.pre6 enc Try.prog Try.f6 Rows.udpBackRow.domain false) (Rows.udpBackSpec.post enc Try.prog Try.f6 false true false false) := by
  refine returnsInHanded_of_change_sized (C := Try.checked) own started (by kernel_rfl) Try.func6
    (ChangeSpec.witness6 (enc := enc) (C := Try.checked) false ⟨#[], #[.agg #[.int .u32 0, .int .u32 0, .int .i64 0, .int .i64 0, .bool false, .slice none 0 0], .slice none 0 0, .int .u32 0], []⟩ 8 (by kernel_rfl) (by kernel_rfl) (by kernel_rfl) (by kernel_rfl)) ?_
  intro W base args ds gs before hval0 hW hcnd hsz0 _
  have hval : ∀ (j : Nat) t v, Try.f6.params[j]? = some t → args[j]? = some v → Value.okWide Try.prog W .any base t v := hval0
  have hsz : ∀ n ∈ DataW.weightsEach Try.prog (Try.f6.params.toList ++ Rows.udpBackSpec.plain.varTypes Try.prog) (ds ++ gs), n ≤ reachBytes := fun n hn => by simpa using List.all_eq_true.1 hsz0 n hn
  have hW' := hW
  obtain ⟨p, q, hA0, hV, rfl, hfz, hnd⟩ := hW
  have hA : DataW.TrodAll enc Try.prog W 0 (fun _ => true) true Try.f6.params.toList args.toList ds p := hA0
  rw [Try.params6] at hA hval hsz
  obtain ⟨v0, vs0, d0, ds0, p0, q0, hargs, rfl, rfl, h0, r0⟩ := trodAll_cons hA
  obtain ⟨v1, vs1, d1, ds1, p1, q1, rfl, rfl, rfl, h1, r1⟩ := trodAll_cons r0
  obtain ⟨v2, vs2, d2, ds2, p2, q2, rfl, rfl, rfl, h2, r2⟩ := trodAll_cons r1
  obtain ⟨rfl, rfl, rfl⟩ := trodAll_nil r2
  obtain rfl : args = #[v0, v1, v2] := by cases args; simp_all
  obtain ⟨rfl, rfl⟩ := trodVars_none hV
  have lt0 : ∀ x ∈ p0, x.block < W.heap.size := by obtain ⟨m, hm⟩ := h0; exact DataW.trod_lt m _ _ _ hm
  have V0 := viewSent (hval 0 37 v0 rfl rfl) h0 (fun n hn => hsz n (DataW.weights_mem_each (j := 0) rfl rfl n hn))
  have lt1 : ∀ x ∈ p1, x.block < W.heap.size := by obtain ⟨m, hm⟩ := h1; exact DataW.trod_lt m _ _ _ hm
  have V1 := view26 (hval 1 23 v1 rfl rfl) h1 (fun n hn => hsz n (DataW.weights_mem_each (j := 1) rfl rfl n hn))
  have lt2 : ∀ x ∈ p2, x.block < W.heap.size := by obtain ⟨m, hm⟩ := h2; exact DataW.trod_lt m _ _ _ hm
  have V2 := viewU32 (hval 2 29 v2 rfl rfl) h2 (fun n hn => hsz n (DataW.weights_mem_each (j := 2) rfl rfl n hn))
  clear hA0 hval0 hsz0 hsz
  refine (walk v0 v1 v2 W V0 V1 V2).mono fun e W' ⟨he, bel⟩ => ?_
  subst he
  exact ⟨_, rfl, _, _, _, [], _, [], hW', trodAll_mk1 (shut_bool Try.underlying4 _), (trodAll_cons_mk (Below.trod laidOut (by kernel_rfl) (of_decide_eq_true (by kernel_rfl)) h0 bel lt0) (trodAll_cons_mk (Below.trod laidOut (by kernel_rfl) (of_decide_eq_true (by kernel_rfl)) h1 bel lt1) (trodAll_cons_mk (Below.trod laidOut (by kernel_rfl) (of_decide_eq_true (by kernel_rfl)) h2 bel lt2) trodAll_mk0))), rfl, bel.frame _, fun h => by cases h⟩

theorem over : Rows.udpBackRow.holds Try.pinned (OpenSpec.ofChange Rows.udpBackSpec) :=
  OpenClaim.holds_of_wide 6 Try.f6 rfl rfl rfl rfl rfl rfl rfl ⟨rfl, rfl, rfl, rfl, rfl⟩ rfl rfl rfl rfl rfl (by kernel_rfl) Try.func6 (by kernel_rfl)
    (of_decide_eq_true (by kernel_rfl)) (by unfold Func.isWrapper; first | (rw [if_pos (by decide +kernel)]; kernel_rfl) | (rw [if_neg (by decide +kernel)]; exact ⟨rfl, rfl⟩))
    (fun os started H enc _ => lifted os started H enc)

end Go.Proofs.Ytijoahehgfpomaa.udpBack
namespace Go.Proofs.Ytijoahehgfpomaa
theorem udpBack_holds : Rows.UdpBackSaid := udpBack.over
#print axioms udpBack_holds
end Go.Proofs.Ytijoahehgfpomaa
