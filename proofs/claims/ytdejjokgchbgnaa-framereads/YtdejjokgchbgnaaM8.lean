/- What the walks say of rows of bytes: parts of them, copies, what is appended, what is joined. -/
import Derived.Test.YtdejjokgchbgnaaM5
import Derived.Test.YtdejjokgchbgnaaJoin
import Derived.Test.YtdejjokgchbgnaaM2
import Derived.Deep.OwnRows
import Derived.Deep.RegionHeld3
import Derived.Deep.DrawnRows
import Derived.Deep.MidRow
set_option maxRecDepth 100000
namespace Go.Proofs.Ytdejjokgchbgnaa
open Go.RowKit

/-- Bytes that a slice shows, with the head of the row. -/
structure At (w : World) (b off len cap : Nat) (l : List Int) : Prop where
  cap1 : len ≤ cap
  cap2 : cap ≤ maxLen
  len : l.length = len
  bytes : isBytes l
  sees : Sees w b off l

theorem At.later {w w' : World} {b off len cap : Nat} {l : List Int} (h : At w b off len cap l) (hb : Below w.heap.size w w') : At w' b off len cap l := ⟨h.cap1, h.cap2, h.len, h.bytes, h.sees.later hb⟩

theorem At.bts {w : World} {b off len cap : Nat} {l : List Int} (h : At w b off len cap l) : Bts w (.slice (some ⟨b, off, none⟩) len cap) l :=
  ⟨_, cap, b, off, by rw [h.len], by rw [h.len]; exact h.cap1, h.cap2, h.bytes, .inl rfl, h.sees⟩

theorem sees_part {w : World} {b off : Nat} {l : List Int} (h : Sees w b off l) (p n : Nat) : Sees w b (off + p) ((l.drop p).take n) := by
  intro i hi
  have hi' : i < n ∧ p + i < l.length := by simp at hi; omega
  have e : ((l.drop p).take n).getD i 0 = l.getD (p + i) 0 := by simp [List.getD, hi'.1]
  rw [e, Nat.add_assoc]
  exact h (p + i) hi'.2

/-- A part of a slice, whatever is left of its capacity. -/
def PartV (V : Value) (b off cap p q : Nat) : Prop := ∃ o, V = .slice (some ⟨b, o, none⟩) (q - p) (cap - p) ∧ (o = off + p ∨ q = p)

theorem slice_part (b off len cap : Nat) (x y : Int) (p q : Nat) (hx : x = (p : Int)) (hy : y = (q : Int)) (hpq : p ≤ q) (hq : q ≤ cap) :
    ∃ V : Value, (∀ W, (Instr.slice 23 (.slice (some ⟨b, off, none⟩) len cap) (some (.int .i64 x)) (some (.int .i64 y)) none).run Try.prog W = .ok V W) ∧ PartV V b off cap p q := by
  subst hx hy
  have ht' : Try.prog.underlying 23 = some (.slice (Try.prog.elem 23)) := by simp [Program.elem, Try.underlying23]
  have he : Try.prog.elem 23 = 5 := by simp [Program.elem, Try.underlying23]
  refine ⟨.slice (some ⟨b, if cap = p then off else off + p, none⟩) (q - p) (cap - p), fun W => ?_, _, rfl, ?_⟩
  · rw [run_slice_lh W 23 _ _ _ ht' .i64 .i64 _ _ (by omega) (by omega) (by omega), he, Try.sizeOf5]
    by_cases hc : cap = p
    · simp [Result.andThen, sliced, hc]
    · simp [Result.andThen, sliced, hc, add_at]
  · by_cases hc : cap = p
    · right; omega
    · left; rw [if_neg hc]

theorem Owns.later {w w' : World} {base : Nat} {v : Value} {l : List Int} (h : Owns w base v l) (hb : Below w.heap.size w w') : Owns w' base v l := by
  refine ⟨h.1, ?_⟩
  rcases h.2 with h' | ⟨g, cap, cur, h1, h2, h3, h4⟩
  · exact .inl h'
  · refine .inr ⟨g, cap, cur, h1, h2, ?_, h4⟩
    have hg : g < w.heap.size := by
      rcases Nat.lt_or_ge g w.heap.size with h | h
      · exact h
      · rw [Array.getElem?_eq_none h] at h3; cases h3
    rw [hb.block g hg]; exact h3

theorem Owns.low {w : World} {base base' : Nat} {v : Value} {l : List Int} (h : Owns w base v l) (hb : base' ≤ base) : Owns w base' v l := by
  refine ⟨h.1, ?_⟩
  rcases h.2 with h' | ⟨g, cap, cur, h1, h2, r⟩
  · exact .inl h'
  · exact .inr ⟨g, cap, cur, h1, Nat.le_trans hb h2, r⟩

theorem Owns.store {w : World} {base : Nat} {v : Value} {l : List Int} (h : Owns w base v l) {q : Addr} (hq : q.block < base) (x : Value) : Owns (w.setCell q x) base v l := ownsRow_setCell_below h hq x

theorem clone_part (V : Value) (b off len cap p q : Nat) (l : List Int) (w : World) (hV : PartV V b off cap p q) (hA : At w b off len cap l) (hl : len ≤ 140737488351232) (hpq : p ≤ q) (hq : q ≤ len) :
    Calls Try.prog 58 #[V] w fun e w' => ∃ v, e = .returned v ∧ Owns w' w.heap.size v ((l.drop p).take (q - p)) ∧ Below w.heap.size w w' := by
  have hL := hA.len
  obtain ⟨o, rfl, ho⟩ := hV
  have hs : Sees w b o ((l.drop p).take (q - p)) := by
    rcases ho with rfl | rfl
    · exact sees_part hA.sees p (q - p)
    · intro i hi; simp at hi
  exact clone_any b o (q - p) (cap - p) ((l.drop p).take (q - p)) w (by simp; omega) hs (by omega)

theorem box_cell {w w' : World} {C : Array Value} {t : TypeId} (hb : Below (w.alloc (.cells C t)).heap.size (w.alloc (.cells C t)) w') (i : Nat) (v : Value) (hv : C[i]? = some v) : w'.cell? ⟨w.heap.size, i, none⟩ = some v := by
  refine cell_later hb ?_
  have := World.cell?_alloc_mark w C t (0, 0) i
  rw [this]; exact hv

/-- One byte behind a row of the call's own. -/
theorem append_one (W : World) (base : Nat) (v : Value) (l : List Int) (c : Int) (hv : Owns W base v l) (hbase : base ≤ W.heap.size) (hlen : l.length ≤ 140737488351000) :
    ∃ v' w', (Builtin.append_ #[23, 23] 23 #[v, .slice (some ⟨W.heap.size, 0, none⟩) 1 1]).run Try.prog (W.alloc (.cells #[.int .u8 c] 5)) = .ok v' w' ∧ Owns w' base v' (l ++ [c]) ∧ Below base W w' := by
  obtain ⟨i0, hi, hz0, hz1, hz2⟩ := info_parts info5
  have hown2 : (W.alloc (.cells #[.int .u8 c] 5)).ownsRow base 5 1 v l.length (l.map (Value.int .u8)) := World.ownsRow.alloc hv _
  obtain ⟨v', w', hr, ho, hg, -⟩ := run_append_own (P := Try.prog) (W.alloc (.cells #[.int .u8 c] 5)) base 23 23 5 i0 (.int .u8 0) 1 1 Try.underlying23 hi hz0 hz1 hz2 rfl (by decide) v l.length (l.map (Value.int .u8)) hown2 ⟨W.heap.size, 0, none⟩ 1 1 [.int .u8 c] rfl (by
    intro j u hj
    match j, hj with
    | 0, hj => simp at hj; subst hj; simp [Addr.add]) (by intro u hu; simp at hu; subst hu; rfl) (by unfold maxLen; omega) (by omega) (by simp; omega)
  refine ⟨v', w', hr, ?_, ((Below.refl _ _).alloc hbase _).grown hg (by simp; omega) (fun k hk => (hv.lt k hk).1)⟩
  unfold Owns
  simpa using ho

theorem append_bts (W : World) (base : Nat) (v vm : Value) (l m : List Int) (hv : Owns W base v l) (hm : Bts W vm m) (hbase : base ≤ W.heap.size) (hlen : l.length + m.length ≤ 140737488351232) :
    ∃ v' w', (Builtin.append_ #[23, 23] 23 #[v, vm]).run Try.prog W = .ok v' w' ∧ Owns w' base v' (l ++ m) ∧ Below base W w' := by
  obtain ⟨i0, hi, hz0, hz1, hz2⟩ := info_parts info5
  obtain ⟨a, cap, b, off, rfl, h2, h3, h4, h5, h6⟩ := hm
  have core : ∀ ad : Addr, (∀ j u, (m.map (Value.int .u8))[j]? = some u → W.cell? (ad.add j) = some u) →
      ∃ v' w', (Builtin.append_ #[23, 23] 23 #[v, .slice (some ad) m.length cap]).run Try.prog W = .ok v' w' ∧ Owns w' base v' (l ++ m) ∧ Below base W w' := by
    intro ad hcs
    obtain ⟨v', w', hr, ho, hg, -⟩ := run_append_own (P := Try.prog) W base 23 23 5 i0 (.int .u8 0) 1 1 Try.underlying23 hi hz0 hz1 hz2 rfl (by decide) v l.length (l.map (Value.int .u8)) hv ad m.length cap (m.map (Value.int .u8)) (by simp) hcs (ones_cell m) (by unfold maxLen; omega) (by omega) hbase
    refine ⟨v', w', hr, ?_, (Below.refl _ _).grown hg hbase (fun k hk => (hv.lt k hk).1)⟩
    unfold Owns
    rw [List.map_append, List.length_append]
    exact ho
  rcases h5 with rfl | rfl
  · exact core ⟨b, off, none⟩ (cells_of_sees h6)
  · cases a with
    | some ad => exact core ad (fun j u hj => by simp at hj)
    | none =>
      refine ⟨v, W, ?_, by simpa using hv, Below.refl _ _⟩
      rcases hv.2 with ⟨rfl, -⟩ | ⟨g, c', cur, rfl, -, -, hn, -⟩
      · simp [Builtin.append_, run_underlying Try.underlying23, sizeOf, typeInfo, hi, Builtin.lenOf, Builtin.firstCells]
      · simp [Builtin.append_, run_underlying Try.underlying23, sizeOf, typeInfo, hi, Builtin.lenOf, Builtin.firstCells, loadCells, storeCells, Result.andThen, hn]

theorem Fresh.setCell {w : World} {base g len cap : Nat} {l : List Int} {q : Addr} {x : Value} (h : Fresh w base (.slice (some ⟨g, 0, none⟩) len cap) l) (hq : q.block ≠ g) : Fresh (w.setCell q x) base (.slice (some ⟨g, 0, none⟩) len cap) l := by
  obtain ⟨g', cap', hv, h2, h3, h4, h5, h6, h7⟩ := h
  simp only [Value.slice.injEq, Option.some.injEq, Addr.mk.injEq, and_true] at hv
  obtain ⟨rfl, rfl, rfl⟩ := hv
  have hblk : (w.setCell q x).heap[g]? = w.heap[g]? := Below.heap_setCell w q x g (Ne.symm hq)
  refine ⟨g, cap, rfl, h2, h3, h4, h5, ?_, ?_⟩
  · intro i hi
    rw [World.cell?_of_block (w := w) hblk]
    exact h6 i hi
  · intro i hi
    rw [World.frozen?_of_block (w := w) hblk]
    exact h7 i hi

/-- Same of two rows of bytes that are one. -/
theorem same_one (w : World) (v v' : Value) (l : List Int) (h : Bts w v l) (h' : Bts w v' l) :
    Calls Try.prog 51 #[v, v'] w fun e w' => e = .returned (.bool true) ∧ ∃ nq, w' = w.drewN nq := by
  obtain ⟨a, cap, b, off, rfl, h2, h3, h4, h5, h6⟩ := h
  obtain ⟨a', cap', b', off', rfl, k2, k3, k4, k5, k6⟩ := h'
  have := same_any a a' b off b' off' cap cap' l l l.length l.length w rfl rfl (Nat.le_trans h2 h3) (Nat.le_trans h2 h3) h5 h6 k5 k6
  rwa [show sameB l l = true by unfold sameB; simp] at this

theorem bts_drewN {w : World} {v : Value} {l : List Int} (h : Bts w v l) (n : Nat) : Bts (w.drewN n) v l := h.later (below_drewN (Below.refl _ _) n)

theorem owns_lit2 (w : World) (a b : Int) : Owns (w.alloc (.cells #[.int .u8 a, .int .u8 b] 5)) w.heap.size (.slice (some ⟨w.heap.size, 0, none⟩) 2 2) [a, b] :=
  World.ownsRow_lit w #[.int .u8 a, .int .u8 b] 2 (Nat.le_refl _) (by decide) rfl

theorem holds8_mk {w : World} {base G len cap : Nat} {L : List Int} (h : Owns w base (.slice (some ⟨G, 0, none⟩) len cap) L) (hl : L.length = len) : Holds8 w base G len cap L := ⟨hl, by unfold Owns at h; rwa [hl] at h⟩

theorem Holds8.later {w w' : World} {base G len cap : Nat} {L : List Int} (h : Holds8 w base G len cap L) (hb : Below w.heap.size w w') : Holds8 w' base G len cap L := holds8_mk (h.owns.later hb) h.1

set_option maxHeartbeats 1000000 in
theorem part_any (b off len cap : Nat) (l : List Int) (x y : Int) (p q : Nat) (w : World) (hA : At w b off len cap l) (hx : x = (p : Int)) (hy : y = (q : Int)) (hpq : p ≤ q) (hn : q ≤ len) (hl : len ≤ 140737488351232) :
    Calls Try.prog 23 #[.slice (some ⟨b, off, none⟩) len cap, .int .i64 x, .int .i64 y] w fun e w' => ∃ v, e = .returned v ∧ Owns w' w.heap.size v ((l.drop p).take (q - p)) ∧ Below w.heap.size w w' := by
  subst hx hy
  obtain ⟨i0, hi, hz0, hz1, hz2⟩ := info_parts info5
  have HL : Hid (l.length = len) := hA.len
  have hs := hA.sees
  clear hA
  go_enter Try.func23, Try.ntmps23
  go_wp2
  go_loopw [7, 8] (fun v i wr => ∃ t : Nat, p ≤ t ∧ t ≤ q ∧ i = .int .i64 (t : Int) ∧ Owns wr w.heap.size v ((l.drop p).take (t - p)) ∧ Below w.heap.size w wr) (fun _ i _ => q - (intOf i).toNat)
  case atStart => exact ⟨p, Nat.le_refl _, hpq, rfl, by rw [Nat.sub_self]; exact World.ownsRow_nil _ _ _ _, Below.refl _ _⟩
  case round =>
    obtain ⟨t, ht1, ht2, rfl, hown, hbel⟩ := hrel
    by_cases hlt : t < q
    · have hcell : wr.cell? ⟨b, off + t, none⟩ = some (.int .u8 (l.getD t 0)) := cell_later hbel (hs t (by rw [HL.out]; omega))
      have htl : Hid (((l.drop p).take (t - p)).length = t - p) := by show _ = _; rw [List.length_take, List.length_drop, HL.out]; omega
      have hts : Hid ((l.drop p).take (t + 1 - p) = (l.drop p).take (t - p) ++ [l.getD t 0]) := by
        show _ = _
        have := take_next l p (t - p) (by rw [HL.out]; omega)
        rwa [show t - p + 1 = t + 1 - p by omega, show p + (t - p) = t by omega] at this
      have hsz := hbel.size
      have htb : (t : Int) < (len : Int) := by omega
      generalize hC : l.getD t 0 = c at *
      clear hC
      have hown2 : (wr.alloc (.cells #[.int .u8 c] 5)).ownsRow w.heap.size 5 1 _ ((l.drop p).take (t - p)).length (((l.drop p).take (t - p)).map (Value.int .u8)) := World.ownsRow.alloc hown _
      go_wp2_with (at_builtin; refine wpList_append_own _ rfl _ _ 23 rfl w.heap.size 5 i0 (.int .u8 0) 1 1 Try.underlying23 hi hz0 hz1 hz2 rfl (by decide) _ _ _ rfl hown2 ⟨wr.heap.size, 0, none⟩ 1 1 [.int .u8 c] rfl rfl ?c1 ?c2 ?c3 ?c4 ?c5 ?_)
      case c1 =>
        intro j u hj
        match j, hj with
        | 0, hj => simp at hj; subst hj; simp [Addr.add]
      case c2 => intro u hu; simp at hu; subst hu; rfl
      case c3 => rw [htl.out]; unfold maxLen; omega
      case c4 => rw [htl.out]; omega
      case c5 => simp; omega
      intro v' w1 hown' hgrow _
      have R1 : Owns w1 w.heap.size v' ((l.drop p).take (t + 1 - p)) := by
        unfold Owns; rw [hts.out]; simpa using hown'
      have R2 : Below w.heap.size w w1 := by
        refine (hbel.alloc hsz _).grown hgrow (by simp; omega) ?_
        intro j hj
        exact (hown.lt j hj).1
      clear hown' hgrow hown2
      go_wp2
      go_roundw
      case rel => exact ⟨t + 1, by omega, by omega, by go_num, R1, R2⟩
      case measure => simp [intOf]; omega
    · have hke : t = q := by omega
      subst hke
      go_wp2
      go_ret
      exact ⟨_, rfl, hown, hbel⟩

set_option maxHeartbeats 2000000 in
theorem lay_any (W : World) (base : Nat) (v : Value) (l : List Int) (q : Int) (n : Nat) (x : Int) (w0 : World) (hv : Owns W base v l) (hbase : base ≤ W.heap.size) (hlen : l.length ≤ 5000) (hq : q = (n : Int)) (hn : n ≤ 4) (hb0 : Below base w0 W) :
    Calls Try.prog 25 #[v, .int .i64 q, .int .u64 x] W fun e w' => ∃ v', e = .returned v' ∧ Owns w' base v' (l ++ bytesOfN n x) ∧ Below base w0 w' ∧ base ≤ w'.heap.size := by
  subst hq
  go_enter Try.func25, Try.ntmps25
  go_wp2
  go_loopw [0, 7] (fun v i wr => ∃ (m : Nat) (L : List Int), m ≤ n ∧ i = .int .i64 ((m : Int) - 1) ∧ Owns wr base v L ∧ L ++ bytesOfN m x = l ++ bytesOfN n x ∧ L.length + m ≤ 5004 ∧ Below base w0 wr ∧ base ≤ wr.heap.size) (fun _ i _ => (intOf i + 1).toNat)
  case atStart => exact ⟨n, l, Nat.le_refl _, rfl, hv, rfl, by omega, hb0, hbase⟩
  case round =>
    obtain ⟨m, L, hm, rfl, hown, hL, hLl, hbel, hsz⟩ := hrel
    have HL : Hid (L ++ bytesOfN m x = l ++ bytesOfN n x) := hL
    clear hL
    by_cases hpos : 0 < m
    · have hc : m = 1 ∨ m = 2 ∨ m = 3 ∨ m = 4 := by omega
      rcases hc with rfl | rfl | rfl | rfl
      · have hr := append_one wr base _ L (x % 256) hown hsz (by omega)
        obtain ⟨v', w1, hrun, ho, hb⟩ := hr
        have R2 : Below base w0 w1 := hbel.trans hb
        have R3 : base ≤ w1.heap.size := Nat.le_trans hsz hb.size
        have R1 : Hid ((L ++ [x % 256]) ++ bytesOfN 0 x = l ++ bytesOfN n x) := by show _ = _; rw [← HL.out, List.append_assoc]; rfl
        go_wp2_with (at_builtin; refine Lib.wpList_append_run_sl _ rfl _ _ 23 rfl _ _ rfl rfl hrun ?_)
        go_roundw
        case rel => exact ⟨0, L ++ [x % 256], by omega, by go_num, ho, R1.out, by simp; omega, R2, R3⟩
        case measure => simp [intOf]
      · have hr := append_one wr base _ L (x / 256 % 256) hown hsz (by omega)
        obtain ⟨v', w1, hrun, ho, hb⟩ := hr
        have R2 : Below base w0 w1 := hbel.trans hb
        have R3 : base ≤ w1.heap.size := Nat.le_trans hsz hb.size
        have R1 : Hid ((L ++ [x / 256 % 256]) ++ bytesOfN 1 x = l ++ bytesOfN n x) := by show _ = _; rw [← HL.out, List.append_assoc]; rfl
        go_wp2_with (at_builtin; refine Lib.wpList_append_run_sl _ rfl _ _ 23 rfl _ _ rfl rfl hrun ?_)
        go_roundw
        case rel => exact ⟨1, L ++ [x / 256 % 256], by omega, by go_num, ho, R1.out, by simp; omega, R2, R3⟩
        case measure => simp [intOf]
      · have hr := append_one wr base _ L (x / 65536 % 256) hown hsz (by omega)
        obtain ⟨v', w1, hrun, ho, hb⟩ := hr
        have R2 : Below base w0 w1 := hbel.trans hb
        have R3 : base ≤ w1.heap.size := Nat.le_trans hsz hb.size
        have R1 : Hid ((L ++ [x / 65536 % 256]) ++ bytesOfN 2 x = l ++ bytesOfN n x) := by show _ = _; rw [← HL.out, List.append_assoc]; rfl
        go_wp2_with (at_builtin; refine Lib.wpList_append_run_sl _ rfl _ _ 23 rfl _ _ rfl rfl hrun ?_)
        go_roundw
        case rel => exact ⟨2, L ++ [x / 65536 % 256], by omega, by go_num, ho, R1.out, by simp; omega, R2, R3⟩
        case measure => simp [intOf]
      · have hr := append_one wr base _ L (x / 16777216 % 256) hown hsz (by omega)
        obtain ⟨v', w1, hrun, ho, hb⟩ := hr
        have R2 : Below base w0 w1 := hbel.trans hb
        have R3 : base ≤ w1.heap.size := Nat.le_trans hsz hb.size
        have R1 : Hid ((L ++ [x / 16777216 % 256]) ++ bytesOfN 3 x = l ++ bytesOfN n x) := by show _ = _; rw [← HL.out, List.append_assoc]; rfl
        go_wp2_with (at_builtin; refine Lib.wpList_append_run_sl _ rfl _ _ 23 rfl _ _ rfl rfl hrun ?_)
        go_roundw
        case rel => exact ⟨3, L ++ [x / 16777216 % 256], by omega, by go_num, ho, R1.out, by simp; omega, R2, R3⟩
        case measure => simp [intOf]
    · have hm0 : m = 0 := by omega
      subst hm0
      have hLe : L = l ++ bytesOfN n x := by have := HL.out; rwa [show bytesOfN 0 x = [] from rfl, List.append_nil] at this
      rw [hLe] at hown
      clear HL hLe
      go_wp2
      go_ret
      exact ⟨_, rfl, hown, hbel, hsz⟩

/-- append, where its run is known, as one step of a region that draws its order. -/
theorem step_append_run {P : Program} {ops : Array Oper} {o : Oper} {a : Act} {w : World} {K : Act → World → Prop} {Q : Exit → Act → World → Prop} {E : Prop} (hgd : o.guard = none) (s x : Operand) (t : TypeId)
    (ho : o.op = .call { callee := .builtin .append, args := #[s, x], argTypes := #[t, t] }) (v u : Value) (hs : a.eval s = v) (hx : a.eval x = u) {v' : Value} {w' : World}
    (hr : (Builtin.append_ #[t, t] o.type #[v, u]).run P w = .ok v' w') (h : K (a.put o.dst v') w') : if Region.wanted o (yielded ops a.tmps) = true then Oper.wp P o a w K Q else E := by
  have hw : Region.wanted o (yielded ops a.tmps) = true := by simp [Region.wanted, hgd]
  rw [if_pos hw]
  exact Lib.wp_append_run_sl w s x t ho v u hs hx hr h

end Go.Proofs.Ytdejjokgchbgnaa

namespace Go.Proofs.Ytdejjokgchbgnaa
open Go.RowKit

set_option maxHeartbeats 400000 in
theorem ulay_yes (b off len cap : Nat) (l : List Int) (q m : Int) (p n : Nat) (x : Int) (w : World) (hq : q = (p : Int)) (hm : m = (n : Int)) (hL : l.length = len)
    (hs : Sees w b off l) (h1 : 1 ≤ n) (h2 : n ≤ 8) (h3 : p + n ≤ len) (hx0 : 0 ≤ x) (hx1 : x < 18446744073709551616) (hreach : len ≤ 140737488351232) :
    Calls Try.prog 76 #[.slice (some ⟨b, off, none⟩) len cap, .int .i64 q, .int .i64 m, .int .u64 x] w fun e w' =>
      ∃ G, e = .returned (.slice (some ⟨G, 0, none⟩) len len) ∧ Holds8 w' w.heap.size G len len (lay l p n x) ∧ Below w.heap.size w w' := by
  subst hq hm
  go_enter Try.func76, Try.ntmps76
  go_wp2_with fail
  refine (put_yes b off len cap l p n x _ hL hs h1 h2 h3 hx0 hx1 hreach).mono ?_
  rintro e w1 ⟨G, rfl, hH, hb⟩
  go_wp2
  go_ret
  exact ⟨G, rfl, hH, hb⟩

theorem ulay_step (b off len cap : Nat) (l : List Int) (q m : Int) (p n : Nat) (x : Int) (w w0 : World) (hb0 : Below w0.heap.size w0 w) (hq : q = (p : Int)) (hm : m = (n : Int)) (hL : l.length = len)
    (hs : Sees w b off l) (h1 : 1 ≤ n) (h2 : n ≤ 8) (h3 : p + n ≤ len) (hx0 : 0 ≤ x) (hx1 : x < 18446744073709551616) (hreach : len ≤ 140737488351232) :
    Calls Try.prog 76 #[.slice (some ⟨b, off, none⟩) len cap, .int .i64 q, .int .i64 m, .int .u64 x] w fun e w' =>
      ∃ G L', e = .returned (.slice (some ⟨G, 0, none⟩) len len) ∧ Hid (L' = lay l p n x) ∧ Hid (L'.length = len) ∧ Sees w' G 0 L' ∧ Below w0.heap.size w0 w' := by
  refine (ulay_yes b off len cap l q m p n x w hq hm hL hs h1 h2 h3 hx0 hx1 hreach).mono ?_
  rintro e w' ⟨G, rfl, hH, hb⟩
  refine ⟨G, _, rfl, (rfl : lay l p n x = lay l p n x), (by show (lay l p n x).length = len; rw [lay_length]; exact hL), ?_, below_trans hb0 hb⟩
  intro i hi
  rw [Nat.zero_add]
  exact hH.cell i (by rw [lay_length, hL] at hi; exact hi)

set_option maxHeartbeats 400000 in
theorem uword_any (b off len cap : Nat) (l : List Int) (q : Int) (k : Nat) (w : World) (hA : At w b off len cap l) (hq : q = (k : Int)) (hk : k + 2 ≤ len) :
    Calls Try.prog 69 #[.slice (some ⟨b, off, none⟩) len cap, .int .i64 q] w fun e w' => e = .returned (.int .i64 (w2 l k)) ∧ w' = w := by
  subst hq
  have hb := w2_bd l hA.bytes k
  have hc1 := hA.cap1
  have hc2 := hA.cap2
  have hg := get_yes b off len cap l k 2 w (Nat.le_trans hc1 hc2) hc1 hc2 hA.len hA.bytes hA.sees (by decide) (by decide) hk
  have e : num ((l.drop k).take 2) = w2 l k := by
    have := getV2 l k (by rw [hA.len]; exact hk)
    unfold getV at this
    rwa [if_pos (by unfold holdsB; rw [hA.len]; simp; omega), Int.toNat_natCast] at this
  rw [e] at hg
  obtain ⟨h0, h1⟩ := hb
  clear hA e
  go_enter Try.func69, Try.ntmps69
  go_wp2_with fail
  refine hg.mono ?_
  rintro e w' ⟨rfl, rfl⟩
  go_wp2
  go_ret
  exact ⟨rfl, rfl⟩

theorem umake12 : ∃ Z : Array Value, Hid (∀ j, j < 12 → Z[j]? = some (.int .u8 0)) ∧ ∀ W : World, (Instr.makeSlice 23 (.int .i64 12) (.int .i64 12)).run Try.prog W = .ok (.slice (some ⟨W.heap.size, 0, none⟩) 12 12) (W.alloc (.cells Z 5)) := by
  refine ⟨madeCells #[.int .u8 0] 12, ?_, fun W => run_make_row' (P := Try.prog) 23 5 (.int .u8 0) 1 Try.underlying23 info5 rfl .i64 .i64 12 (by decide) (by decide) W⟩
  show ∀ j, j < 12 → (madeCells #[.int .u8 0] 12)[j]? = some (.int .u8 0)
  intro j hj
  simp [madeCells, hj, Nat.mod_one]

theorem umake8 : ∃ Z : Array Value, Hid (∀ j, j < 8 → Z[j]? = some (.int .u8 0)) ∧ ∀ W : World, (Instr.makeSlice 23 (.int .i64 8) (.int .i64 8)).run Try.prog W = .ok (.slice (some ⟨W.heap.size, 0, none⟩) 8 8) (W.alloc (.cells Z 5)) := by
  refine ⟨madeCells #[.int .u8 0] 8, ?_, fun W => run_make_row' (P := Try.prog) 23 5 (.int .u8 0) 1 Try.underlying23 info5 rfl .i64 .i64 8 (by decide) (by decide) W⟩
  show ∀ j, j < 8 → (madeCells #[.int .u8 0] 8)[j]? = some (.int .u8 0)
  intro j hj
  simp [madeCells, hj, Nat.mod_one]

theorem zeros_sees (w : World) (Z : Array Value) (n : Nat) (h : ∀ j, j < n → Z[j]? = some (.int .u8 0)) : Sees (w.alloc (.cells Z 5)) w.heap.size 0 (List.replicate n 0) := by
  intro i hi
  rw [List.length_replicate] at hi
  rw [Nat.zero_add, World.cell?_alloc_mark w Z 5 (0, 0) i]
  rw [show (List.replicate n (0 : Int)).getD i 0 = 0 by simp [List.getD, hi]]
  exact h i hi

theorem u64_wrap (x : Int) : IntKind.u64.wrap x = x % 18446744073709551616 := IntKind.wrap_u64 x

set_option maxHeartbeats 1000000 in
theorem pseudo_any (s d p n : Int) (w : World) (s0 : 0 ≤ s) (s1 : s < 4294967296) (d0 : 0 ≤ d) (d1 : d < 4294967296) :
    Calls Try.prog 74 #[.int .u32 s, .int .u32 d, .int .i64 p, .int .i64 n] w fun e w' =>
      ∃ G, e = .returned (.slice (some ⟨G, 0, none⟩) 12 12) ∧ Bts w' (.slice (some ⟨G, 0, none⟩) 12 12) (pseudoB s d p n) ∧ Below w.heap.size w w' := by
  obtain ⟨Z, hZ, hmk⟩ := umake12
  have hs0 := zeros_sees w Z 12 hZ.out
  go_enter Try.func74, Try.ntmps74
  go_wp2_with fail
  refine (ulay_step w.heap.size 0 12 12 (List.replicate 12 0) 0 4 0 4 s _ w (below_alloc _ _) rfl rfl (by decide) hs0 (by decide) (by decide) (by decide) (by omega) (by omega) (by decide)).mono ?_
  rintro e w1 ⟨G1, L1, rfl, E1, HL1, hs, hb⟩
  clear hs0
  go_wp2_with fail
  refine (ulay_step G1 0 12 12 L1 4 4 4 4 d _ w hb rfl rfl HL1.out hs (by decide) (by decide) (by decide) (by omega) (by omega) (by decide)).mono ?_
  clear hs hb
  rintro e w2' ⟨G2, L2, rfl, E2, HL2, hs, hb⟩
  go_wp2_with fail
  refine (ulay_step G2 0 12 12 L2 9 1 9 1 (p % 18446744073709551616) _ w hb rfl rfl HL2.out hs (by decide) (by decide) (by decide) (by omega) (by omega) (by decide)).mono ?_
  clear hs hb
  rintro e w3 ⟨G3, L3, rfl, E3, HL3, hs, hb⟩
  go_wp2_with fail
  refine (ulay_step G3 0 12 12 L3 10 2 10 2 (n % 18446744073709551616) _ w hb rfl rfl HL3.out hs (by decide) (by decide) (by decide) (by omega) (by omega) (by decide)).mono ?_
  clear hs hb
  rintro e w4 ⟨G4, L4, rfl, E4, HL4, hs, hb⟩
  have HE : Hid (L4 = pseudoB s d p n) := by
    show L4 = pseudoB s d p n
    rw [E4.out, E3.out, E2.out, E1.out]
    show [s / 256 / 256 / 256 % 256, s / 256 / 256 % 256, s / 256 % 256, s % 256, d / 256 / 256 / 256 % 256, d / 256 / 256 % 256, d / 256 % 256, d % 256, 0, p % 18446744073709551616 % 256, n % 18446744073709551616 / 256 % 256, n % 18446744073709551616 % 256] = _
    unfold pseudoB
    simp only [List.cons.injEq, and_true, true_and]
    refine ⟨by omega, by omega, by omega, by omega, by omega, by omega, by omega⟩
  rw [HE.out] at hs
  clear E1 E2 E3 E4
  go_wp2
  go_ret
  exact ⟨G4, rfl, ⟨_, 12, G4, 0, rfl, by rw [pseudo_length]; exact Nat.le_refl _, by decide, pseudo_bytes s d p n, .inl rfl, hs⟩, hb⟩

set_option maxHeartbeats 1000000 in
theorem rpseudo_any (s d p n : Int) (w : World) (s0 : 0 ≤ s) (s1 : s < 4294967296) (d0 : 0 ≤ d) (d1 : d < 4294967296) :
    Calls Try.prog 39 #[.int .u32 s, .int .u32 d, .int .i64 p, .int .i64 n] w fun e w' =>
      ∃ v, e = .returned v ∧ Bts w' v (pseudoB s d p n) ∧ Below w.heap.size w w' := by
  go_enter Try.func39, Try.ntmps39
  go_wp2_with fail
  refine (lay_any w w.heap.size (.slice none 0 0) [] 4 4 s w (World.ownsRow_nil _ _ _ _) (Nat.le_refl _) (by simp) rfl (by decide) (Below.refl _ _)).mono ?_
  rintro e w1 ⟨v1, rfl, ho1, hb1, hz1⟩
  go_wp2_with fail
  refine (lay_any w1 w.heap.size v1 _ 4 4 d w ho1 hz1 (by simp [bytesOfN]) rfl (by decide) hb1).mono ?_
  clear ho1 hb1 hz1
  rintro e w2' ⟨v2, rfl, ho2, hb2, hz2⟩
  obtain ⟨v3, w3, hrun, ho3, hb3⟩ := append_bts (w2'.alloc (.cells #[.int .u8 0, .int .u8 (p % 256)] 5)) w.heap.size v2 _ _ _ (World.ownsRow.alloc ho2 _) ((owns_lit2 w2' 0 (p % 256)).bts (by intro z hz; simp at hz; rcases hz with rfl | rfl <;> omega)) (by simp; omega) (by simp [bytesOfN])
  have hb3' : Below w.heap.size w w3 := (hb2.alloc hz2 _).trans hb3
  have hz3 : w.heap.size ≤ w3.heap.size := by have := hb3.size; simp only [World.size_alloc] at this; omega
  clear ho2 hb2 hb3
  go_wp2_with (at_builtin; refine Lib.wpList_append_run_sl _ rfl _ _ 23 rfl _ _ rfl rfl hrun ?_)
  refine (lay_any w3 w.heap.size v3 _ 2 2 (n % 18446744073709551616) w ho3 hz3 (by simp [bytesOfN]) rfl (by decide) hb3').mono ?_
  rintro e w4 ⟨v4, rfl, ho4, hb4, hz4⟩
  have HE : Hid ((([] ++ bytesOfN 4 s) ++ bytesOfN 4 d) ++ [0, p % 256] ++ bytesOfN 2 (n % 18446744073709551616) = pseudoB s d p n) := by
    show _ = _
    simp only [bytesOfN, pseudoB, List.nil_append, List.cons_append, List.cons.injEq, and_true, true_and]
    refine ⟨by omega, by omega⟩
  have hB := ho4.bts (by rw [HE.out]; exact pseudo_bytes s d p n)
  rw [HE.out] at hB
  clear ho4 ho3 hrun HE
  go_wp2
  go_ret
  exact ⟨v4, rfl, hB, hb4⟩
end Go.Proofs.Ytdejjokgchbgnaa

namespace Go.Proofs.Ytdejjokgchbgnaa
open Go.RowKit
attribute [local go_sem ↓] Go.wp_at_zero Go.wp_at_succ

/-- A datagram as a value. -/
@[reducible] def udV (u : Ud) (vd : Value) : Value := .agg #[.int .i64 u.src, .int .i64 u.dst, .bool u.bare, vd]

@[reducible] def udC (u : Ud) (vd : Value) : Array Value := #[.int .i64 u.src, .int .i64 u.dst, .bool u.bare, vd]

theorem pts3 {w : World} {v1 v2 v3 : Value} {l1 l2 l3 : List Int} (t : TypeId) (h1 : Bts w v1 l1) (h2 : Bts w v2 l2) (h3 : Bts w v3 l3) : Pts (w.alloc (.cells #[v1, v2, v3] t)) w.heap.size 0 [l1, l2, l3] := by
  have b := below_alloc w (.cells #[v1, v2, v3] t)
  intro i hi
  have : i = 0 ∨ i = 1 ∨ i = 2 := by simp at hi; omega
  rcases this with rfl | rfl | rfl
  · exact ⟨v1, by rw [World.cell?_alloc_mark w #[v1, v2, v3] t (0, 0)]; rfl, h1.later b⟩
  · exact ⟨v2, by rw [World.cell?_alloc_mark w #[v1, v2, v3] t (0, 0)]; rfl, h2.later b⟩
  · exact ⟨v3, by rw [World.cell?_alloc_mark w #[v1, v2, v3] t (0, 0)]; rfl, h3.later b⟩

theorem pts2 {w : World} {v1 v2 : Value} {l1 l2 : List Int} (t : TypeId) (h1 : Bts w v1 l1) (h2 : Bts w v2 l2) : Pts (w.alloc (.cells #[v1, v2] t)) w.heap.size 0 [l1, l2] := by
  have b := below_alloc w (.cells #[v1, v2] t)
  intro i hi
  have : i = 0 ∨ i = 1 := by simp at hi; omega
  rcases this with rfl | rfl
  · exact ⟨v1, by rw [World.cell?_alloc_mark w #[v1, v2] t (0, 0)]; rfl, h1.later b⟩
  · exact ⟨v2, by rw [World.cell?_alloc_mark w #[v1, v2] t (0, 0)]; rfl, h2.later b⟩

theorem Bts.bytes {w : World} {v : Value} {l : List Int} (h : Bts w v l) : isBytes l := by
  obtain ⟨a, cap, b, off, h1, h2, h3, h4, h5, h6⟩ := h; exact h4

theorem sum2 (w : World) (N : Nat) (v1 v2 : Value) (l1 l2 : List Int) (t : TypeId) (hN : N = w.heap.size) (h1 : Bts w v1 l1) (h2 : Bts w v2 l2) (hbig : l1.length + l2.length ≤ 1099511627776) :
    Calls Try.prog 57 #[.slice (some ⟨N, 0, none⟩) 2 2] (w.alloc (.cells #[v1, v2] t)) fun e w' => e = .returned (.int .i64 (fold16 (ws (l1 ++ l2)))) ∧ w' = w.alloc (.cells #[v1, v2] t) := by
  subst hN
  have := sum_any (some ⟨w.heap.size, 0, none⟩) w.heap.size 0 2 [l1, l2] (w.alloc (.cells #[v1, v2] t)) (by simp) (by decide) (.inl rfl) (pts2 t h1 h2) (by simpa using hbig) (by simpa using isBytes_append h1.bytes h2.bytes)
  simpa using this

theorem uhead_bts {w : World} {G : Nat} {u : Ud} {c : Int} {L : List Int} (h : Sees w G 0 L) (e : L = headU u c) : Bts w (.slice (some ⟨G, 0, none⟩) 8 8) (headU u c) := by
  subst e
  exact ⟨_, 8, G, 0, rfl, by rw [headU_length]; exact Nat.le_refl _, by decide, headU_bytes u c, .inl rfl, h⟩

end Go.Proofs.Ytdejjokgchbgnaa

namespace Go.Proofs.Ytdejjokgchbgnaa
open Go.RowKit

theorem rin_any (x m : Int) (w : World) : Calls Try.prog 37 #[.int .i64 x, .int .i64 m] w fun e w' => e = .returned (.bool (inBb x m)) ∧ w' = w := by
  by_cases h0 : 0 ≤ x
  · by_cases h1 : x ≤ m
    · have E : Hid (inBb x m = true) := decide_eq_true (show inB x m from ⟨h0, h1⟩)
      go_enter Try.func37, Try.ntmps37
      go_wp2
      go_ret
      exact ⟨ret_bool E.out.symm, rfl⟩
    · have E : Hid (inBb x m = false) := decide_eq_false (fun h : inB x m => h1 h.2)
      go_enter Try.func37, Try.ntmps37
      go_wp2
      go_ret
      exact ⟨ret_bool E.out.symm, rfl⟩
  · have E : Hid (inBb x m = false) := decide_eq_false (fun h : inB x m => h0 h.1)
    go_enter Try.func37, Try.ntmps37
    go_wp2
    go_ret
    exact ⟨ret_bool E.out.symm, rfl⟩

set_option maxHeartbeats 1000000 in
theorem rword_any (b off len cap : Nat) (l : List Int) (q : Int) (k : Nat) (w : World) (hA : At w b off len cap l) (hq : q = (k : Int)) (hk : k + 2 ≤ len) (hl : len ≤ 140737488351232) :
    Calls Try.prog 47 #[.slice (some ⟨b, off, none⟩) len cap, .int .i64 q] w fun e w' => e = .returned (.int .i64 (w2 l k)) ∧ ∃ nq, w' = w.drewN nq := by
  subst hq
  have hL := hA.len
  have c0 := hA.sees k (by omega)
  obtain ⟨k1, hk1⟩ : ∃ k1, k + 1 = k1 := ⟨_, rfl⟩
  have c1 := hA.sees k1 (by omega)
  have b0 := getD_byte l hA.bytes k
  have b1 := getD_byte l hA.bytes k1
  have HW : Hid (w2 l k = l.getD k 0 * 256 + l.getD k1 0) := by show _ = _; rw [← hk1]; rfl
  generalize l.getD k 0 = x at *
  generalize l.getD k1 0 = y at *
  obtain ⟨x0, x1⟩ := b0
  obtain ⟨y0, y1⟩ := b1
  have hor : bits .or .i64 (x * 256) y = x * 256 + y := or_i64 8 (x * 256) y (by omega) (by omega) (by omega) y0 (by omega) (by omega)
  have i0 : (k : Int) < (len : Int) := by omega
  have i1 : (k1 : Int) < (len : Int) := by omega
  have u1 : IntKind.i64.wrap ((k : Int) + 1) = (k1 : Int) := by rw [i64_id _ (by omega) (by omega)]; omega
  have u2 : IntKind.i64.wrap x = x := i64_id _ (by omega) (by omega)
  have u3 : IntKind.i64.wrap (x * 256) = x * 256 := i64_id _ (by omega) (by omega)
  have u4 : IntKind.i64.wrap y = y := i64_id _ (by omega) (by omega)
  clear hA hL hk1
  go_enter Try.func47, Try.ntmps47
  go_wp2
  go_quiet (fail)
  go_wp2
  go_ret
  exact ⟨by rw [HW.out]; rfl, _, rfl⟩

theorem rpts2 {w : World} {v1 v2 : Value} {l1 l2 : List Int} (t : TypeId) (h1 : Bts w v1 l1) (h2 : Bts w v2 l2) : Pts (w.alloc (.cells #[v1, v2] t)) w.heap.size 0 [l1, l2] := by
  have b := below_alloc w (.cells #[v1, v2] t)
  intro i hi
  have : i = 0 ∨ i = 1 := by simp at hi; omega
  rcases this with rfl | rfl
  · exact ⟨v1, by rw [World.cell?_alloc_mark w #[v1, v2] t (0, 0)]; rfl, h1.later b⟩
  · exact ⟨v2, by rw [World.cell?_alloc_mark w #[v1, v2] t (0, 0)]; rfl, h2.later b⟩

theorem rsum2 (w : World) (N : Nat) (v1 v2 : Value) (l1 l2 : List Int) (t : TypeId) (hN : N = w.heap.size) (h1 : Bts w v1 l1) (h2 : Bts w v2 l2) (hbig : l1.length + l2.length ≤ 1099511627776) :
    Calls Try.prog 38 #[.slice (some ⟨N, 0, none⟩) 2 2] (w.alloc (.cells #[v1, v2] t)) fun e w' => e = .returned (.int .i64 (fold16 (ws (l1 ++ l2)))) ∧ w' = w.alloc (.cells #[v1, v2] t) := by
  subst hN
  have b1 : isBytes l1 := by obtain ⟨a, cap, b, off, h1, h2, h3, h4, h5, h6⟩ := h1; exact h4
  have b2 : isBytes l2 := by obtain ⟨a, cap, b, off, h1, h2, h3, h4, h5, h6⟩ := h2; exact h4
  have := rsum_any (some ⟨w.heap.size, 0, none⟩) w.heap.size 0 2 [l1, l2] (w.alloc (.cells #[v1, v2] t)) (by simp) (by decide) (.inl rfl) (rpts2 t h1 h2) (by simpa using hbig) (by simpa using isBytes_append b1 b2)
  simpa using this
end Go.Proofs.Ytdejjokgchbgnaa

namespace Go.Proofs.Ytdejjokgchbgnaa
open Go.RowKit

/-- A message as a value. -/
@[reducible] def wdV (m : Wd) (vd : Value) : Value := .agg #[.int .i64 m.type, .int .i64 m.code, .int .u32 m.rest, vd]

@[reducible] def wdC (m : Wd) (vd : Value) : Array Value := #[.int .i64 m.type, .int .i64 m.code, .int .u32 m.rest, vd]

theorem wnumber_any (b off len cap : Nat) (l : List Int) (q m : Int) (k n : Nat) (w : World) (hA : At w b off len cap l) (hq : q = (k : Int)) (hm : m = (n : Int)) (h1 : 1 ≤ n) (h2 : n ≤ 8) (hk : k + n ≤ len) :
    Calls Try.prog 72 #[.slice (some ⟨b, off, none⟩) len cap, .int .i64 q, .int .i64 m] w fun e w' => e = .returned (.int .u64 (num ((l.drop k).take n))) ∧ w' = w := by
  subst hq hm
  have hc1 := hA.cap1
  have hc2 := hA.cap2
  have hg := get_yes b off len cap l k n w (Nat.le_trans hc1 hc2) hc1 hc2 hA.len hA.bytes hA.sees h1 h2 hk
  clear hA
  go_enter Try.func72, Try.ntmps72
  go_wp2_with fail
  refine hg.mono ?_
  rintro e w' ⟨rfl, rfl⟩
  go_wp2
  go_ret
  exact ⟨rfl, rfl⟩

theorem wnum1 (l : List Int) (k : Nat) (h : k + 1 ≤ l.length) : num ((l.drop k).take 1) = b1 l k := by
  have := getV1 l k h
  unfold getV at this
  rwa [if_pos (by unfold holdsB; simp; omega), Int.toNat_natCast] at this

theorem wnum4 (l : List Int) (k : Nat) (h : k + 4 ≤ l.length) : num ((l.drop k).take 4) = w4 l k := by
  have := getV4 l k h
  unfold getV at this
  rwa [if_pos (by unfold holdsB; simp; omega), Int.toNat_natCast] at this

theorem wnumber1 (b off len cap : Nat) (l : List Int) (q : Int) (k : Nat) (w : World) (hA : At w b off len cap l) (hq : q = (k : Int)) (hk : k + 1 ≤ len) :
    Calls Try.prog 72 #[.slice (some ⟨b, off, none⟩) len cap, .int .i64 q, .int .i64 1] w fun e w' => e = .returned (.int .u64 (b1 l k)) ∧ w' = w := by
  have := wnumber_any b off len cap l q 1 k 1 w hA hq rfl (by decide) (by decide) hk
  rwa [wnum1 l k (by rw [hA.len]; exact hk)] at this

theorem wnumber4 (b off len cap : Nat) (l : List Int) (q : Int) (k : Nat) (w : World) (hA : At w b off len cap l) (hq : q = (k : Int)) (hk : k + 4 ≤ len) :
    Calls Try.prog 72 #[.slice (some ⟨b, off, none⟩) len cap, .int .i64 q, .int .i64 4] w fun e w' => e = .returned (.int .u64 (w4 l k)) ∧ w' = w := by
  have := wnumber_any b off len cap l q 4 k 4 w hA hq rfl (by decide) (by decide) hk
  rwa [wnum4 l k (by rw [hA.len]; exact hk)] at this

theorem wone_any (v : Value) (l : List Int) (w : World) (h : Bts w v l) (hbig : l.length ≤ 1099511627776) :
    Calls Try.prog 21 #[v] w fun e w' => e = .returned (.int .i64 (fold16 (ws l))) ∧ Below w.heap.size w w' := by
  have hb : isBytes l := h.bytes
  have := rsum_any (some ⟨w.heap.size, 0, none⟩) w.heap.size 0 1 [l] (w.alloc (.cells #[v] 23)) (by simp) (by decide) (.inl rfl) (pts_one 23 h) (by simpa using hbig) (by simpa using hb)
  have hc : Calls Try.prog 38 #[.slice (some ⟨w.heap.size, 0, none⟩) 1 1] (w.alloc (.cells #[v] 23)) fun e w' => e = .returned (.int .i64 (fold16 (ws l))) ∧ w' = w.alloc (.cells #[v] 23) := by simpa using this
  obtain ⟨a, n, c, rfl⟩ := h.shape
  clear this
  go_enter Try.func21, Try.ntmps21
  go_wp2_with fail
  refine hc.mono ?_
  rintro e w' ⟨rfl, rfl⟩
  go_wp2
  go_ret
  exact ⟨rfl, below_alloc _ _⟩
end Go.Proofs.Ytdejjokgchbgnaa

namespace Go.Proofs.Ytdejjokgchbgnaa
open Go.RowKit
attribute [local go_sem ↓] Go.wp_at_zero Go.wp_at_succ

theorem whead_bts {w : World} {G : Nat} {m : Wd} {c : Int} {L : List Int} (h : Sees w G 0 L) (e : L = headW m c) : Bts w (.slice (some ⟨G, 0, none⟩) 8 8) (headW m c) := by
  subst e
  exact ⟨_, 8, G, 0, rfl, by rw [headW_length]; exact Nat.le_refl _, by decide, headW_bytes m c, .inl rfl, h⟩

theorem whead_list (m : Wd) : lay (lay (lay (List.replicate 8 0) 0 1 m.type) 1 1 m.code) 4 4 m.rest = headW m 0 := by
  show [m.type % 256, m.code % 256, 0, 0, m.rest / 256 / 256 / 256 % 256, m.rest / 256 / 256 % 256, m.rest / 256 % 256, m.rest % 256] = _
  unfold headW
  simp only [List.cons.injEq, and_true, true_and]
  refine ⟨by decide, by decide, by omega, by omega⟩

end Go.Proofs.Ytdejjokgchbgnaa

namespace Go.Proofs.Ytdejjokgchbgnaa
open Go.RowKit
attribute [local go_sem ↓] Go.wp_at_zero Go.wp_at_succ

theorem wslice_from (b off len cap : Nat) (x : Int) (p : Nat) (hx : x = (p : Int)) (hp : p ≤ len) (hc : len ≤ cap) :
    ∃ V : Value, (∀ W, (Instr.slice 23 (.slice (some ⟨b, off, none⟩) len cap) (some (.int .i64 x)) none none).run Try.prog W = .ok V W) ∧ PartV V b off cap p len := by
  subst hx
  have ht' : Try.prog.underlying 23 = some (.slice (Try.prog.elem 23)) := by simp [Program.elem, Try.underlying23]
  have he : Try.prog.elem 23 = 5 := by simp [Program.elem, Try.underlying23]
  refine ⟨.slice (some ⟨b, if cap = p then off else off + p, none⟩) (len - p) (cap - p), fun W => ?_, _, rfl, ?_⟩
  · rw [run_slice_l W 23 _ _ _ ht' .i64 _ (by omega) (by omega), he, Try.sizeOf5]
    by_cases hc : cap = p
    · simp [Result.andThen, sliced, hc]
    · simp [Result.andThen, sliced, hc, add_at]
  · by_cases hc : cap = p
    · right; omega
    · left; rw [if_neg hc]

theorem Bts.shapeW {w : World} {v : Value} {l : List Int} (h : Bts w v l) : ∃ a c, v = .slice a l.length c := by
  obtain ⟨a, c, _, _, rfl, _⟩ := h; exact ⟨_, _, rfl⟩

@[reducible] def zeroWC : Array Value := #[.int .i64 0, .int .i64 0, .int .u32 0, .slice none 0 0]

theorem zeroWC_cells {w w0 w' : World} {t : TypeId} (h : w0 = w.alloc (.cells zeroWC t)) (hb : Below w0.heap.size w0 w') :
    (w'.cell? ⟨w.heap.size, 0, none⟩ = some (.int .i64 0) ∧ w'.cell? ⟨w.heap.size, 1, none⟩ = some (.int .i64 0) ∧ w'.cell? ⟨w.heap.size, 2, none⟩ = some (.int .u32 0) ∧ w'.cell? ⟨w.heap.size, 3, none⟩ = some (.slice none 0 0)) ∧ ∀ i, w'.frozen? ⟨w.heap.size, i, none⟩ = false := by
  subst h
  have hc : ∀ i v, zeroWC[i]? = some v → w'.cell? ⟨w.heap.size, i, none⟩ = some v := by
    intro i v hv
    refine cell_later hb ?_
    rw [World.cell?_alloc_mark w zeroWC t (0, 0) i]; exact hv
  refine ⟨⟨hc 0 _ rfl, hc 1 _ rfl, hc 2 _ rfl, hc 3 _ rfl⟩, fun i => ?_⟩
  rw [hb.frozen (by simp), World.frozen?_alloc_mark w zeroWC t 0 0 i]; simp

/-- A message laid into the four cells of block n. -/
@[reducible] def laidW (w : World) (n : Nat) (m : Wd) (vd : Value) : World :=
  (((w.setCell ⟨n, 0, none⟩ (.int .i64 m.type)).setCell ⟨n, 1, none⟩ (.int .i64 m.code)).setCell ⟨n, 2, none⟩ (.int .u32 m.rest)).setCell ⟨n, 3, none⟩ vd

theorem laidW_below {w w' : World} {n : Nat} (h : Below n w w') (m : Wd) (vd : Value) : Below n w (laidW w' n m vd) := by
  have hle : n ≤ n := Nat.le_refl _
  exact ((((h.setCell hle _).setCell hle _).setCell hle _).setCell hle _)

theorem laidW_owns {w : World} {n base : Nat} {v : Value} {l : List Int} (h : Owns w base v l) (hn : n < base) (m : Wd) (vd : Value) : Owns (laidW w n m vd) base v l :=
  ((((h.store hn _).store hn _).store hn _).store hn _)

theorem laidW_cells {w w0 w' : World} {t : TypeId} (h : w0 = w.alloc (.cells zeroWC t)) (hb : Below w0.heap.size w0 w') (m : Wd) (vd : Value) :
    (laidW w' w.heap.size m vd).cell? ⟨w.heap.size, 0, none⟩ = some (.int .i64 m.type) ∧ (laidW w' w.heap.size m vd).cell? ⟨w.heap.size, 1, none⟩ = some (.int .i64 m.code) ∧ (laidW w' w.heap.size m vd).cell? ⟨w.heap.size, 2, none⟩ = some (.int .u32 m.rest) ∧ (laidW w' w.heap.size m vd).cell? ⟨w.heap.size, 3, none⟩ = some vd := by
  obtain ⟨⟨c0, c1, c2, c3⟩, -⟩ := zeroWC_cells h hb
  refine ⟨?_, ?_, ?_, ?_⟩
  · simp [go_sem, c0]
  · simp [go_sem, c1]
  · simp [go_sem, c2]
  · simp [go_sem, c3]

theorem wparse_short (a : Option Addr) (len cap : Nat) (w : World) (h : len < 8) :
    Calls Try.prog 62 #[.slice a len cap] w fun e w' => e = .returned (.tuple #[wdV Wd.zero (.slice none 0 0), .int .i64 2]) ∧ Below w.heap.size w w' := by
  have h' : (len : Int) < 8 := by omega
  go_enter Try.func62, Try.ntmps62
  go_wp2
  refine bodyPost_ret (v := .tuple #[wdV Wd.zero (.slice none 0 0), .int .i64 2]) ?_ rfl ?_
  · simp [results, Try.results62, go_sem, Wd.zero]
  exact ⟨rfl, below_alloc _ _⟩

set_option maxHeartbeats 2000000 in
theorem wparse_sum (b off len cap : Nat) (l : List Int) (w : World) (hA : At w b off len cap l) (hl : len ≤ 1099511627776) (g1 : 8 ≤ len) (h : fold16 (ws l) ≠ 65535) :
    Calls Try.prog 62 #[.slice (some ⟨b, off, none⟩) len cap] w fun e w' => e = .returned (.tuple #[wdV Wd.zero (.slice none 0 0), .int .i64 5]) ∧ Below w.heap.size w w' := by
  have h' : ¬ (len : Int) < 8 := by omega
  have hs : (fold16 (ws l) != 65535) = true := by rw [bne_iff_ne]; exact h
  have HL : Hid (l.length = len) := hA.len
  clear h
  go_enter Try.func62, Try.ntmps62
  go_wp2_with fail
  refine (sum_one (w.alloc (.cells zeroWC 87)) _ _ l 23 (by simp) (hA.later (below_alloc _ _)).bts (by rw [HL.out]; exact hl)).mono ?_
  rintro e w1 ⟨rfl, hw1⟩
  have hb1 : Below (w.alloc (.cells zeroWC 87)).heap.size (w.alloc (.cells zeroWC 87)) w1 := by rw [hw1]; exact below_alloc _ _
  obtain ⟨⟨c0, c1, c2, c3⟩, hfz⟩ := zeroWC_cells rfl hb1
  have bel := laidW_below (below_trans (below_alloc _ _) hb1) Wd.zero (.slice none 0 0)
  clear hw1 hb1
  go_wp2
  refine bodyPost_ret (v := .tuple #[wdV Wd.zero (.slice none 0 0), .int .i64 5]) ?_ rfl ?_
  · simp [results, Try.results62, go_sem, c0, c1, c2, c3, Wd.zero]
  exact ⟨rfl, bel⟩

theorem wparse_no (a : Option Addr) (b off len cap : Nat) (l : List Int) (w : World) (ha : a = some ⟨b, off, none⟩ ∨ l = []) (hA : At w b off len cap l) (hl : len ≤ 1099511627776) (h : ¬ parseW l = 0) :
    Calls Try.prog 62 #[.slice a len cap] w fun e w' => e = .returned (.tuple #[wdV Wd.zero (.slice none 0 0), .int .i64 (parseW l)]) ∧ Below w.heap.size w w' := by
  have hL := hA.len
  obtain ⟨E, hE⟩ : ∃ E, parseW l = E := ⟨_, rfl⟩
  rw [hE] at h ⊢
  unfold parseW at hE
  by_cases g1 : l.length < 8
  · rw [if_pos g1] at hE; subst hE; exact wparse_short a len cap w (by omega)
  rw [if_neg g1] at hE
  rcases ha with rfl | rfl
  case inr => simp at g1
  by_cases g2 : fold16 (ws l) ≠ 65535
  · rw [if_pos g2] at hE; subst hE; exact wparse_sum b off len cap l w hA hl (by omega) g2
  rw [if_neg g2] at hE
  exact absurd hE.symm h

theorem drop_all (l : List Int) (p : Nat) : (l.drop p).take (l.length - p) = l.drop p := by
  rw [List.take_of_length_le]; simp

set_option maxHeartbeats 8000000 in
theorem wparse_own (b off len cap : Nat) (l : List Int) (w : World) (hA : At w b off len cap l) (hl : len ≤ 1099511627776) (g : WGood l) :
    Calls Try.prog 62 #[.slice (some ⟨b, off, none⟩) len cap] w fun e w' =>
      ∃ a1 k1, e = .returned (.tuple #[wdV (wdOf l) (.slice a1 (wdOf l).data.length k1), .int .i64 0]) ∧ Owns w' w.heap.size (.slice a1 (wdOf l).data.length k1) (wdOf l).data ∧ Below w.heap.size w w' := by
  have hL := hA.len
  have hc := hA.cap1
  have g1 := g.a
  rw [hL] at g1
  have h' : ¬ (len : Int) < 8 := by omega
  have hs : (fold16 (ws l) != 65535) = false := by rw [g.e]; rfl
  obtain ⟨V1, hsl1, ho1⟩ := wslice_from b off len cap 8 8 rfl g1 hc
  have HBL : Hid (isBytes l) := hA.bytes
  have HLL : Hid (l.length = len) := hL
  obtain ⟨x0, y0⟩ := b1_bd l hA.bytes 0
  obtain ⟨x1, y1⟩ := b1_bd l hA.bytes 1
  obtain ⟨x4, y4⟩ := w4_bd l hA.bytes 4
  have v0 : IntKind.i64.wrap (b1 l 0) = b1 l 0 := i64_id _ x0 (by omega)
  have v1 : IntKind.i64.wrap (b1 l 1) = b1 l 1 := i64_id _ x1 (by omega)
  have v4 : IntKind.u32.wrap (w4 l 4) = w4 l 4 := u32_id _ x4 (by omega)
  clear g hL
  go_enter Try.func62, Try.ntmps62
  go_wp2_with fail
  refine (sum_one (w.alloc (.cells zeroWC 87)) _ _ l 23 (by simp) (hA.later (below_alloc _ _)).bts (by rw [HLL.out]; exact hl)).mono ?_
  rintro e w1 ⟨rfl, hw1⟩
  have hb1 : Below (w.alloc (.cells zeroWC 87)).heap.size (w.alloc (.cells zeroWC 87)) w1 := by rw [hw1]; exact below_alloc _ _
  have hb0 : Below w.heap.size w w1 := below_trans (below_alloc _ _) hb1
  have hA1 := hA.later hb0
  have HW : Hid (Below (w.alloc (.cells zeroWC 87)).heap.size (w.alloc (.cells zeroWC 87)) w1) := hb1
  have hsz := hb1.size
  simp only [World.size_alloc] at hsz
  clear hb1 hw1
  go_wp2_with fail
  go_region_held3 (fun w' => True) (first | trivial | go_keep)
    (first
      | (go_at_call_of 72 (Value.int .i64 4); refine (wnumber4 b off len cap l 4 4 _ (hA1.later (Below.refl _ _).drew) rfl (by omega)).mono ?_; rintro e w2' ⟨rfl, hw2⟩; have hw2 := hw2.symm; subst hw2)
      | (go_at_call_of 72 (Value.int .i64 0); refine (wnumber1 b off len cap l 0 0 _ (hA1.later (Below.refl _ _).drew) rfl (by omega)).mono ?_; rintro e w2' ⟨rfl, hw2⟩; have hw2 := hw2.symm; subst hw2)
      | (go_at_call_of 72 (Value.int .i64 1); refine (wnumber1 b off len cap l 1 1 _ (hA1.later (Below.refl _ _).drew) rfl (by omega)).mono ?_; rintro e w2' ⟨rfl, hw2⟩; have hw2 := hw2.symm; subst hw2)
      | (go_at_call_of 58 V1; refine (clone_part V1 b off len cap 8 len l _ ho1 (hA1.later (Below.refl _ _).drew) (by omega) (by omega) (by omega)).mono ?_; rintro e w3 ⟨v1', rfl, hv1, hb3'⟩; rw [← HLL.out, drop_all] at hv1; obtain ⟨a1, k1, rfl⟩ := Bts.shapeW (l := (wdOf l).data) (hv1.bts (isBytes_drop HBL.out _)); have hb3 : Below w1.heap.size w1 w3 := below_trans (Below.refl _ _).drew hb3'; obtain ⟨⟨c0, c1, c2, c3⟩, hfz⟩ := zeroWC_cells rfl (below_trans HW.out hb3)))
  have hlt : w.heap.size < w1.drew.heap.size := by show w.heap.size < w1.heap.size; omega
  have hB1 := laidW_owns hv1 hlt (wdOf l) (.slice a1 (wdOf l).data.length k1)
  have bel := laidW_below (below_trans hb0 hb3) (wdOf l) (.slice a1 (wdOf l).data.length k1)
  obtain ⟨r0, r1, r2, r3⟩ := laidW_cells rfl (below_trans HW.out hb3) (wdOf l) (.slice a1 (wdOf l).data.length k1)
  obtain ⟨W, hW⟩ : ∃ W, W = laidW w3 w.heap.size (wdOf l) (.slice a1 (wdOf l).data.length k1) := ⟨_, rfl⟩
  have hW' : ((((w3.setCell ⟨w.heap.size, 0, none⟩ (.int .i64 (b1 l 0))).setCell ⟨w.heap.size, 1, none⟩ (.int .i64 (b1 l 1))).setCell ⟨w.heap.size, 2, none⟩ (.int .u32 (w4 l 4))).setCell ⟨w.heap.size, 3, none⟩ (.slice a1 (wdOf l).data.length k1)) = W := hW.symm
  rw [hW']
  rw [← hW] at hB1 bel r0 r1 r2 r3
  clear hW hW' hv1 hb3 hb3' c0 c1 c2 c3 hfz
  go_wp2
  refine bodyPost_ret (v := .tuple #[wdV (wdOf l) (.slice a1 (wdOf l).data.length k1), .int .i64 0]) ?_ rfl ?_
  · simp [results, Try.results62, go_sem, r0, r1, r2, r3]
  exact ⟨_, _, rfl, hB1.low (by show w.heap.size ≤ w1.heap.size; omega), bel⟩

theorem wparse_ok (b off len cap : Nat) (l : List Int) (w : World) (hA : At w b off len cap l) (hl : len ≤ 1099511627776) (g : WGood l) :
    Calls Try.prog 62 #[.slice (some ⟨b, off, none⟩) len cap] w fun e w' =>
      ∃ a1 k1, e = .returned (.tuple #[wdV (wdOf l) (.slice a1 (wdOf l).data.length k1), .int .i64 0]) ∧ Bts w' (.slice a1 (wdOf l).data.length k1) (wdOf l).data ∧ Below w.heap.size w w' := by
  refine (wparse_own b off len cap l w hA hl g).mono ?_
  rintro e w' ⟨a1, k1, rfl, ho, hb⟩
  exact ⟨a1, k1, rfl, ho.bts (isBytes_drop hA.bytes _), hb⟩
end Go.Proofs.Ytdejjokgchbgnaa

namespace Go.Proofs.Ytdejjokgchbgnaa
open Go.RowKit

def echoW (code x : Int) : Int := if code = 0 then x else 0

theorem echo_any (m : Wd) (a : Option Addr) (n c : Nat) (x : Int) (w : World) :
    Calls Try.prog 73 #[wdV m (.slice a n c), .int .i64 x] w fun e w' => e = .returned (.int .i64 (echoW m.code x)) ∧ Below w.heap.size w w' := by
  by_cases h : m.code = 0
  · have E : Hid (echoW m.code x = x) := if_pos h
    have hne : (m.code != 0) = false := by rw [h]; rfl
    clear h
    go_enter Try.func73, Try.ntmps73
    go_wp2
    go_ret
    exact ⟨ret_int E.out.symm, below_alloc _ _⟩
  · have E : Hid (echoW m.code x = 0) := if_neg h
    have hne : (m.code != 0) = true := by rw [bne_iff_ne]; exact h
    clear h
    go_enter Try.func73, Try.ntmps73
    go_wp2
    go_ret
    exact ⟨ret_int E.out.symm, below_alloc _ _⟩

theorem number_of (m : Wd) (a : Option Addr) (n c : Nat) (w : World) (h0 : 0 ≤ m.rest) (h1 : m.rest < 4294967296) :
    Calls Try.prog 65 #[wdV m (.slice a n c)] w fun e w' => e = .returned (.int .i64 (m.rest / 65536)) ∧ Below w.heap.size w w' := by
  go_enter Try.func65, Try.ntmps65
  go_wp2
  go_ret
  exact ⟨ret_int (by omega), below_alloc _ _⟩

theorem kind_any (m : Wd) (a : Option Addr) (n c : Nat) (w : World) :
    Calls Try.prog 63 #[wdV m (.slice a n c)] w fun e w' => e = .returned (.int .i64 (kindW m.type m.code)) ∧ Below w.heap.size w w' := by
  obtain ⟨t, code, rest, data⟩ := m
  show Calls Try.prog 63 #[wdV ⟨t, code, rest, data⟩ (.slice a n c)] w fun e w' => e = .returned (.int .i64 (kindW t code)) ∧ Below w.heap.size w w'
  by_cases h3 : t = 3
  · subst h3
    have E : Hid (kindW 3 code = 5) := by show kindW 3 code = 5; unfold kindW; simp
    go_enter Try.func63, Try.ntmps63
    go_wp2
    go_ret
    exact ⟨ret_int E.out.symm, below_alloc _ _⟩
  by_cases h11 : t = 11
  · subst h11
    have E : Hid (kindW 11 code = 5) := by show kindW 11 code = 5; unfold kindW; simp
    go_enter Try.func63, Try.ntmps63
    go_wp2
    go_ret
    exact ⟨ret_int E.out.symm, below_alloc _ _⟩
  by_cases h12 : t = 12
  · subst h12
    have E : Hid (kindW 12 code = 5) := by show kindW 12 code = 5; unfold kindW; simp
    go_enter Try.func63, Try.ntmps63
    go_wp2
    go_ret
    exact ⟨ret_int E.out.symm, below_alloc _ _⟩
  by_cases h8 : t = 8
  · subst h8
    have E : Hid (kindW 8 code = echoW code 3) := by show kindW 8 code = echoW code 3; unfold kindW echoW; simp
    go_enter Try.func63, Try.ntmps63
    go_wp2_with fail
    refine (echo_any ⟨8, code, rest, data⟩ a n c 3 _).mono ?_
    rintro e w1 ⟨rfl, hb1⟩
    go_wp2
    go_ret
    exact ⟨ret_int E.out.symm, below_trans (below_alloc _ _) hb1⟩
  by_cases h0 : t = 0
  · subst h0
    have E : Hid (kindW 0 code = echoW code 4) := by show kindW 0 code = echoW code 4; unfold kindW echoW; simp
    go_enter Try.func63, Try.ntmps63
    go_wp2_with fail
    refine (echo_any ⟨0, code, rest, data⟩ a n c 4 _).mono ?_
    rintro e w1 ⟨rfl, hb1⟩
    go_wp2
    go_ret
    exact ⟨ret_int E.out.symm, below_trans (below_alloc _ _) hb1⟩
  have E : Hid (kindW t code = 0) := by show kindW t code = 0; unfold kindW; simp [h3, h11, h12, h8, h0]
  go_enter Try.func63, Try.ntmps63
  go_wp2
  go_ret
  exact ⟨ret_int E.out.symm, below_alloc _ _⟩

theorem rkind_any (m : Wd) (a : Option Addr) (n c : Nat) (w : World) :
    Calls Try.prog 50 #[wdV m (.slice a n c)] w fun e w' => e = .returned (.int .i64 (kindW m.type m.code)) ∧ Below w.heap.size w w' := by
  obtain ⟨t, code, rest, data⟩ := m
  show Calls Try.prog 50 #[wdV ⟨t, code, rest, data⟩ (.slice a n c)] w fun e w' => e = .returned (.int .i64 (kindW t code)) ∧ Below w.heap.size w w'
  by_cases h3 : t = 3
  · subst h3
    have E : Hid (kindW 3 code = 5) := by show kindW 3 code = 5; unfold kindW; simp
    go_enter Try.func50, Try.ntmps50
    go_wp2
    go_ret
    exact ⟨ret_int E.out.symm, below_alloc _ _⟩
  by_cases h11 : t = 11
  · subst h11
    have E : Hid (kindW 11 code = 5) := by show kindW 11 code = 5; unfold kindW; simp
    go_enter Try.func50, Try.ntmps50
    go_wp2
    go_ret
    exact ⟨ret_int E.out.symm, below_alloc _ _⟩
  by_cases h12 : t = 12
  · subst h12
    have E : Hid (kindW 12 code = 5) := by show kindW 12 code = 5; unfold kindW; simp
    go_enter Try.func50, Try.ntmps50
    go_wp2
    go_ret
    exact ⟨ret_int E.out.symm, below_alloc _ _⟩
  by_cases h8 : t = 8
  · subst h8
    by_cases hc : code = 0
    · subst hc
      have E : Hid (kindW 8 0 = 3) := (by decide : kindW 8 0 = 3)
      go_enter Try.func50, Try.ntmps50
      go_wp2
      go_ret
      exact ⟨ret_int E.out.symm, below_alloc _ _⟩
    · have E : Hid (kindW 8 code = 0) := by show kindW 8 code = 0; unfold kindW; simp [hc]
      go_enter Try.func50, Try.ntmps50
      go_wp2
      go_ret
      exact ⟨ret_int E.out.symm, below_alloc _ _⟩
  by_cases h0 : t = 0
  · subst h0
    by_cases hc : code = 0
    · subst hc
      have E : Hid (kindW 0 0 = 4) := (by decide : kindW 0 0 = 4)
      go_enter Try.func50, Try.ntmps50
      go_wp2
      go_ret
      exact ⟨ret_int E.out.symm, below_alloc _ _⟩
    · have E : Hid (kindW 0 code = 0) := by show kindW 0 code = 0; unfold kindW; simp [hc]
      go_enter Try.func50, Try.ntmps50
      go_wp2
      go_ret
      exact ⟨ret_int E.out.symm, below_alloc _ _⟩
  have E : Hid (kindW t code = 0) := by show kindW t code = 0; unfold kindW; simp [h3, h11, h12, h8, h0]
  have e3 : (t == 3) = false := by simp [h3]
  have e11 : (t == 11) = false := by simp [h11]
  have e12 : (t == 12) = false := by simp [h12]
  have e8 : (t == 8) = false := by simp [h8]
  have e0 : (t == 0) = false := by simp [h0]
  clear h3 h11 h12 h8 h0
  go_enter Try.func50, Try.ntmps50
  go_wp2
  go_ret
  exact ⟨ret_int E.out.symm, below_alloc _ _⟩
end Go.Proofs.Ytdejjokgchbgnaa

namespace Go.Proofs.Ytdejjokgchbgnaa
open Go.RowKit
attribute [local go_sem ↓] Go.wp_at_zero Go.wp_at_succ

theorem fnumber_any (b off len cap : Nat) (l : List Int) (q m : Int) (k n : Nat) (w : World) (hA : At w b off len cap l) (hq : q = (k : Int)) (hm : m = (n : Int)) (h1 : 1 ≤ n) (h2 : n ≤ 8) (hk : k + n ≤ len) :
    Calls Try.prog 35 #[.slice (some ⟨b, off, none⟩) len cap, .int .i64 q, .int .i64 m] w fun e w' => e = .returned (.int .u64 (num ((l.drop k).take n))) ∧ w' = w := by
  subst hq hm
  have hc1 := hA.cap1
  have hc2 := hA.cap2
  have hg := get_yes b off len cap l k n w (Nat.le_trans hc1 hc2) hc1 hc2 hA.len hA.bytes hA.sees h1 h2 hk
  clear hA
  go_enter Try.func35, Try.ntmps35
  go_wp2_with fail
  refine hg.mono ?_
  rintro e w' ⟨rfl, rfl⟩
  go_wp2
  go_ret
  exact ⟨rfl, rfl⟩

theorem num_1 (l : List Int) (k : Nat) (h : k + 1 ≤ l.length) : num ((l.drop k).take 1) = b1 l k := by
  rw [take_next l k 0 (by omega), num_snoc]; simp [num, b1]

theorem num_2 (l : List Int) (k : Nat) (h : k + 2 ≤ l.length) : num ((l.drop k).take 2) = w2 l k := by
  rw [take_next l k 1 (by omega), num_snoc, take_next l k 0 (by omega), num_snoc]; simp [num, w2]

theorem num_4 (l : List Int) (k : Nat) (h : k + 4 ≤ l.length) : num ((l.drop k).take 4) = w4 l k := by
  rw [take_next l k 3 (by omega), num_snoc, take_next l k 2 (by omega), num_snoc, take_next l k 1 (by omega), num_snoc, take_next l k 0 (by omega), num_snoc]; simp [num, w4]

theorem fnumber1 (b off len cap : Nat) (l : List Int) (q : Int) (k : Nat) (w : World) (hA : At w b off len cap l) (hq : q = (k : Int)) (hk : k + 1 ≤ len) :
    Calls Try.prog 35 #[.slice (some ⟨b, off, none⟩) len cap, .int .i64 q, .int .i64 1] w fun e w' => e = .returned (.int .u64 (b1 l k)) ∧ w' = w := by
  have := fnumber_any b off len cap l q 1 k 1 w hA hq rfl (by decide) (by decide) hk
  rwa [num_1 l k (by rw [hA.len]; exact hk)] at this

theorem fnumber2 (b off len cap : Nat) (l : List Int) (q : Int) (k : Nat) (w : World) (hA : At w b off len cap l) (hq : q = (k : Int)) (hk : k + 2 ≤ len) :
    Calls Try.prog 35 #[.slice (some ⟨b, off, none⟩) len cap, .int .i64 q, .int .i64 2] w fun e w' => e = .returned (.int .u64 (w2 l k)) ∧ w' = w := by
  have := fnumber_any b off len cap l q 2 k 2 w hA hq rfl (by decide) (by decide) hk
  rwa [num_2 l k (by rw [hA.len]; exact hk)] at this

theorem fnumber4 (b off len cap : Nat) (l : List Int) (q : Int) (k : Nat) (w : World) (hA : At w b off len cap l) (hq : q = (k : Int)) (hk : k + 4 ≤ len) :
    Calls Try.prog 35 #[.slice (some ⟨b, off, none⟩) len cap, .int .i64 q, .int .i64 4] w fun e w' => e = .returned (.int .u64 (w4 l k)) ∧ w' = w := by
  have := fnumber_any b off len cap l q 4 k 4 w hA hq rfl (by decide) (by decide) hk
  rwa [num_4 l k (by rw [hA.len]; exact hk)] at this

theorem whyOf_any (e0 : Int) (w : World) : Calls Try.prog 27 #[.int .i64 e0] w fun e w' => e = .returned (.int .i64 (whyI e0)) ∧ w' = w := by
  by_cases h : e0 = 5
  · have E : Hid (whyI e0 = 2) := if_pos h
    go_enter Try.func27, Try.ntmps27
    go_wp2
    go_ret
    exact ⟨ret_int E.out.symm, rfl⟩
  · have E : Hid (whyI e0 = 1) := if_neg h
    go_enter Try.func27, Try.ntmps27
    go_wp2
    go_ret
    exact ⟨ret_int E.out.symm, rfl⟩

theorem rwhy_any (e0 : Int) (w : World) : Calls Try.prog 29 #[.int .i64 e0] w fun e w' => e = .returned (.int .i64 (whyI e0)) ∧ w' = w := by
  by_cases h : e0 = 5
  · have E : Hid (whyI e0 = 2) := if_pos h
    go_enter Try.func29, Try.ntmps29
    go_wp2
    go_ret
    exact ⟨ret_int E.out.symm, rfl⟩
  · have E : Hid (whyI e0 = 1) := if_neg h
    go_enter Try.func29, Try.ntmps29
    go_wp2
    go_ret
    exact ⟨ret_int E.out.symm, rfl⟩

theorem proto_any (k : Int) (w : World) : Calls Try.prog 17 #[.int .i64 k] w fun e w' => e = .returned (.int .i64 (protoK k)) ∧ w' = w := by
  by_cases h1 : k = 1
  · subst h1
    go_enter Try.func17, Try.ntmps17
    go_wp2
    go_ret
    exact ⟨rfl, rfl⟩
  by_cases h2 : k = 2
  · subst h2
    go_enter Try.func17, Try.ntmps17
    go_wp2
    go_ret
    exact ⟨rfl, rfl⟩
  by_cases h3 : k = 3
  · subst h3
    go_enter Try.func17, Try.ntmps17
    go_wp2
    go_ret
    exact ⟨rfl, rfl⟩
  by_cases h4 : k = 4
  · subst h4
    go_enter Try.func17, Try.ntmps17
    go_wp2
    go_ret
    exact ⟨rfl, rfl⟩
  have E : Hid (protoK k = 0) := by show protoK k = 0; unfold protoK; simp [h1, h2, h3, h4]
  have g1 : (k == 1) = false := by simpa using h1
  have g2 : (k == 2) = false := by simpa using h2
  have g3 : (k == 3) = false := by simpa using h3
  have g4 : (k == 4) = false := by simpa using h4
  clear h1 h2 h3 h4
  go_enter Try.func17, Try.ntmps17
  go_wp2
  go_ret
  exact ⟨ret_int E.out.symm, rfl⟩

theorem rproto_any (k : Int) (w : World) : Calls Try.prog 18 #[.int .i64 k] w fun e w' => e = .returned (.int .i64 (protoK k)) ∧ w' = w := by
  by_cases h1 : k = 1
  · subst h1
    go_enter Try.func18, Try.ntmps18
    go_wp2
    go_ret
    exact ⟨rfl, rfl⟩
  by_cases h2 : k = 2
  · subst h2
    go_enter Try.func18, Try.ntmps18
    go_wp2
    go_ret
    exact ⟨rfl, rfl⟩
  by_cases h3 : k = 3
  · subst h3
    go_enter Try.func18, Try.ntmps18
    go_wp2
    go_ret
    exact ⟨rfl, rfl⟩
  by_cases h4 : k = 4
  · subst h4
    go_enter Try.func18, Try.ntmps18
    go_wp2
    go_ret
    exact ⟨rfl, rfl⟩
  have E : Hid (protoK k = 0) := by show protoK k = 0; unfold protoK; simp [h1, h2, h3, h4]
  have g1 : (k == 1) = false := by simpa using h1
  have g2 : (k == 2) = false := by simpa using h2
  have g3 : (k == 3) = false := by simpa using h3
  have g4 : (k == 4) = false := by simpa using h4
  clear h1 h2 h3 h4
  go_enter Try.func18, Try.ntmps18
  go_wp2
  go_ret
  exact ⟨ret_int E.out.symm, rfl⟩
end Go.Proofs.Ytdejjokgchbgnaa

namespace Go.Proofs.Ytdejjokgchbgnaa
open Go.RowKit
attribute [local go_sem ↓] Go.wp_at_zero Go.wp_at_succ

@[reducible] def inV (x : Inn) : Value := .agg #[.int .i64 x.proto, .int .u32 x.sa, .int .i64 x.sp, .int .u32 x.da, .int .i64 x.dp]

theorem mask4_u (x : Int) (h0 : 0 ≤ x) (h1 : x < 256) : bits .and .i64 x 15 = x % 16 := mask_i64 4 (by decide) x h0 (by omega)

theorem mask13_u (x : Int) (h0 : 0 ≤ x) (h1 : x < 65536) : bits .and .u64 x 8191 = x % 8192 := bits_mask .u64 64 (by decide) u64_id 13 (by decide) x h0 (by omega)

/-- What stands behind the header. -/
theorem at_drop {w : World} {b off len cap : Nat} {l : List Int} (hA : At w b off len cap l) (h : Nat) (hh : h ≤ len) : At w b (off + h) (len - h) (cap - h) (l.drop h) := by
  have c1 := hA.cap1
  have c2 := hA.cap2
  refine ⟨by omega, by omega, by rw [List.length_drop, hA.len], fun z hz => hA.bytes z (List.mem_of_mem_drop hz), ?_⟩
  intro i hi
  rw [List.length_drop] at hi
  have := hA.sees (h + i) (by omega)
  rw [← Nat.add_assoc] at this
  rw [this]
  simp [List.getD]

theorem slice_behind (b off len cap : Nat) (x : Int) (p : Nat) (hx : x = (p : Int)) (hp : p < len) (hc : len ≤ cap) (W : World) :
    (Instr.slice 23 (.slice (some ⟨b, off, none⟩) len cap) (some (.int .i64 x)) none none).run Try.prog W = .ok (.slice (some ⟨b, off + p, none⟩) (len - p) (cap - p)) W := by
  subst hx
  have ht' : Try.prog.underlying 23 = some (.slice (Try.prog.elem 23)) := by simp [Program.elem, Try.underlying23]
  have he : Try.prog.elem 23 = 5 := by simp [Program.elem, Try.underlying23]
  rw [run_slice_l W 23 _ _ _ ht' .i64 _ (by omega) (by omega), he, Try.sizeOf5]
  have hc : ¬ cap = p := by omega
  simp [Result.andThen, sliced, hc, add_at]

theorem behind_short (a : Option Addr) (len cap : Nat) (w : World) (h : len < 20) :
    Calls Try.prog 34 #[.slice a len cap] w fun e w' => e = .returned (.tuple #[.slice none 0 0, .bool false]) ∧ w' = w := by
  have h' : (len : Int) < 20 := by omega
  go_enter Try.func34, Try.ntmps34
  go_wp2
  go_ret2
  exact ⟨rfl, rfl⟩

set_option maxHeartbeats 1000000 in
theorem behind_no (b off len cap : Nat) (l : List Int) (w : World) (hA : At w b off len cap l) (h20 : 20 ≤ len) (h : ¬ Head l) :
    Calls Try.prog 34 #[.slice (some ⟨b, off, none⟩) len cap] w fun e w' => e = .returned (.tuple #[.slice none 0 0, .bool false]) ∧ w' = w := by
  have h' : ¬ (len : Int) < 20 := by omega
  obtain ⟨x0, y0⟩ := b1_bd l hA.bytes 0
  have HL : Hid (l.length = len) := hA.len
  have hm := mask4_u (b1 l 0) x0 y0
  have hu : IntKind.i64.wrap (b1 l 0) = b1 l 0 := i64_id _ x0 (by omega)
  by_cases hv : b1 l 0 / 16 = 4
  · by_cases hd : hdOf l < 20
    · unfold hdOf at hd
      clear h
      go_enter Try.func34, Try.ntmps34
      go_wp2_with fail
      refine (fnumber1 b off len cap l 0 0 _ hA rfl (by omega)).mono ?_
      rintro e w' ⟨rfl, rfl⟩
      go_wp2
      go_ret2
      exact ⟨rfl, rfl⟩
    · have he : (len : Int) < hdOf l + 8 := by
        rcases Int.lt_or_le (len : Int) (hdOf l + 8) with k | k
        · exact k
        · exact absurd ⟨by rw [HL.out]; exact h20, hv, by omega, by rw [HL.out]; exact k⟩ h
      unfold hdOf at hd he
      clear h
      go_enter Try.func34, Try.ntmps34
      go_wp2_with fail
      refine (fnumber1 b off len cap l 0 0 _ hA rfl (by omega)).mono ?_
      rintro e w' ⟨rfl, rfl⟩
      go_wp2
      go_ret2
      exact ⟨rfl, rfl⟩
  · have hv' : (b1 l 0 / 16 != 4) = true := by rw [bne_iff_ne]; exact hv
    clear h hv
    go_enter Try.func34, Try.ntmps34
    go_wp2_with fail
    refine (fnumber1 b off len cap l 0 0 _ hA rfl (by omega)).mono ?_
    rintro e w' ⟨rfl, rfl⟩
    go_wp2
    go_ret2
    exact ⟨rfl, rfl⟩

set_option maxHeartbeats 1000000 in
theorem behind_ok (b off len cap h : Nat) (l : List Int) (w : World) (hA : At w b off len cap l) (hh : hdOf l = (h : Int)) (g : Head l) :
    Calls Try.prog 34 #[.slice (some ⟨b, off, none⟩) len cap] w fun e w' => e = .returned (.tuple #[.slice (some ⟨b, off + h, none⟩) (len - h) (cap - h), .bool true]) ∧ w' = w := by
  have HL := hA.len
  obtain ⟨g1, g2, g3, g4⟩ := g
  rw [HL] at g1 g4
  have h' : ¬ (len : Int) < 20 := by omega
  obtain ⟨x0, y0⟩ := b1_bd l hA.bytes 0
  have hm := mask4_u (b1 l 0) x0 y0
  have hu : IntKind.i64.wrap (b1 l 0) = b1 l 0 := i64_id _ x0 (by omega)
  have hv : (b1 l 0 / 16 != 4) = false := by rw [g2]; rfl
  have hc := hA.cap1
  have hs := fun W => slice_behind b off len cap (b1 l 0 % 16 * 4) h hh (by omega) hc W
  have hd : ¬ b1 l 0 % 16 * 4 < 20 := by unfold hdOf at g3; omega
  have he : ¬ (len : Int) < b1 l 0 % 16 * 4 + 8 := by unfold hdOf at g4; omega
  clear g1 g2 g3 g4 HL hh
  go_enter Try.func34, Try.ntmps34
  go_wp2_with fail
  refine (fnumber1 b off len cap l 0 0 _ hA rfl (by omega)).mono ?_
  rintro e w' ⟨rfl, rfl⟩
  clear hA
  go_wp2
  go_ret2
  exact ⟨rfl, rfl⟩

def echoN (m : List Int) : Int := if echoB m = true then w2 m 4 else 0

theorem echo_kind (m : List Int) : echoB m = true ↔ protoK (kindW (b1 m 0) (b1 m 1)) = 1 := by
  rw [proto_kind]; unfold echoB; simp

set_option maxHeartbeats 2000000 in
theorem echoNumber_any (b off len cap : Nat) (m : List Int) (w : World) (hA : At w b off len cap m) (h8 : 8 ≤ len) :
    Calls Try.prog 53 #[.slice (some ⟨b, off, none⟩) len cap] w fun e w' => e = .returned (.tuple #[.int .i64 (echoN m), .bool (echoB m)]) ∧ Below w.heap.size w w' := by
  have HB : Hid (isBytes m) := hA.bytes
  obtain ⟨x0, y0⟩ := b1_bd m hA.bytes 0
  obtain ⟨x1, y1⟩ := b1_bd m hA.bytes 1
  obtain ⟨x4, y4⟩ := w4_bd m hA.bytes 4
  have v0 : IntKind.i64.wrap (b1 m 0) = b1 m 0 := i64_id _ x0 (by omega)
  have v1 : IntKind.i64.wrap (b1 m 1) = b1 m 1 := i64_id _ x1 (by omega)
  have v4 : IntKind.u32.wrap (w4 m 4) = w4 m 4 := u32_id _ x4 (by omega)
  have n0 := fun W (h : At W b off len cap m) => fnumber1 b off len cap m 0 0 W h rfl (by omega)
  have n1 := fun W (h : At W b off len cap m) => fnumber1 b off len cap m 1 1 W h rfl (by omega)
  have n4 := fun W (h : At W b off len cap m) => fnumber4 b off len cap m 4 4 W h rfl (by omega)
  by_cases hk : protoK (kindW (b1 m 0) (b1 m 1)) = 1
  · have hB : Hid (echoB m = true) := (echo_kind m).2 hk
    have hN : Hid (echoN m = w4 m 4 / 65536) := by show echoN m = _; unfold echoN; rw [if_pos hB.out, w4_high m HB.out]
    have hk' : (protoK (kindW (b1 m 0) (b1 m 1)) != 1) = false := by rw [hk]; rfl
    clear hk
    go_enter Try.func53, Try.ntmps53
    go_wp2_with fail
    refine (n0 _ hA).mono ?_
    rintro e w' ⟨rfl, rfl⟩
    go_wp2_with fail
    refine (n1 _ hA).mono ?_
    rintro e w' ⟨rfl, rfl⟩
    go_wp2_with fail
    refine (n4 _ hA).mono ?_
    rintro e w' ⟨rfl, rfl⟩
    have HX : Hid (0 ≤ w4 m 4 ∧ w4 m 4 < 4294967296) := ⟨x4, y4⟩
    clear n0 n1 n4 hA
    go_wp2_with fail
    refine (kind_any ⟨b1 m 0, b1 m 1, w4 m 4, []⟩ none 0 0 _).mono ?_
    rintro e w1 ⟨rfl, hb1⟩
    have c0 := box_cell hb1 0 _ rfl
    have c1 := box_cell hb1 1 _ rfl
    have c2 := box_cell hb1 2 _ rfl
    have c3 := box_cell hb1 3 _ rfl
    have hb := below_trans (below_alloc _ _) hb1
    clear hb1
    go_wp2_with fail
    refine (proto_any _ _).mono ?_
    rintro e w' ⟨rfl, rfl⟩
    go_wp2_with fail
    refine (number_of ⟨b1 m 0, b1 m 1, w4 m 4, []⟩ none 0 0 _ HX.out.1 HX.out.2).mono ?_
    rintro e w2 ⟨rfl, hb2⟩
    go_wp2
    go_ret2
    exact ⟨by rw [hB.out, hN.out]; rfl, below_trans hb hb2⟩
  · have hB : Hid (echoB m = false) := by
      show echoB m = false
      rcases h : echoB m with _ | _
      · rfl
      · exact absurd ((echo_kind m).1 h) hk
    have hN : Hid (echoN m = 0) := by show echoN m = _; unfold echoN; rw [if_neg (by rw [hB.out]; decide)]
    have hk' : (protoK (kindW (b1 m 0) (b1 m 1)) != 1) = true := by rw [bne_iff_ne]; exact hk
    clear hk
    go_enter Try.func53, Try.ntmps53
    go_wp2_with fail
    refine (n0 _ hA).mono ?_
    rintro e w' ⟨rfl, rfl⟩
    go_wp2_with fail
    refine (n1 _ hA).mono ?_
    rintro e w' ⟨rfl, rfl⟩
    go_wp2_with fail
    refine (n4 _ hA).mono ?_
    rintro e w' ⟨rfl, rfl⟩
    clear n0 n1 n4 hA
    go_wp2_with fail
    refine (kind_any ⟨b1 m 0, b1 m 1, w4 m 4, []⟩ none 0 0 _).mono ?_
    rintro e w1 ⟨rfl, hb1⟩
    have hb := below_trans (below_alloc _ _) hb1
    clear hb1
    go_wp2_with fail
    refine (proto_any _ _).mono ?_
    rintro e w' ⟨rfl, rfl⟩
    go_wp2
    go_ret2
    exact ⟨by rw [hB.out, hN.out]; rfl, hb⟩

set_option maxHeartbeats 1000000 in
theorem ports_some (b off len cap : Nat) (x f t : Int) (m : List Int) (w : World) (hA : At w b off len cap m) (h8 : 8 ≤ len) (h : portsOf x m = some (f, t)) :
    Calls Try.prog 36 #[.int .i64 x, .slice (some ⟨b, off, none⟩) len cap] w fun e w' => e = .returned (.tuple #[.int .i64 f, .int .i64 t, .bool true]) ∧ Below w.heap.size w w' := by
  obtain ⟨x0, y0⟩ := w2_bd m hA.bytes 0
  obtain ⟨x2, y2⟩ := w2_bd m hA.bytes 2
  have v0 : IntKind.i64.wrap (w2 m 0) = w2 m 0 := i64_id _ x0 (by omega)
  have v2 : IntKind.i64.wrap (w2 m 2) = w2 m 2 := i64_id _ x2 (by omega)
  unfold portsOf at h
  by_cases h17 : x = 17
  · rw [if_pos (.inl h17)] at h
    obtain ⟨rfl, rfl⟩ := Prod.mk.inj (Option.some.inj h)
    subst h17
    clear h
    go_enter Try.func36, Try.ntmps36
    go_wp2_with fail
    refine (fnumber2 b off len cap m 0 0 _ hA rfl (by omega)).mono ?_
    rintro e w' ⟨rfl, rfl⟩
    go_wp2_with fail
    refine (fnumber2 b off len cap m 2 2 _ hA rfl (by omega)).mono ?_
    rintro e w' ⟨rfl, rfl⟩
    go_wp2
    refine bodyPost_ret (v := .tuple #[.int .i64 (w2 m 0), .int .i64 (w2 m 2), .bool true]) ?_ rfl ?_
    · simp [results, Try.results36, go_sem]
    exact ⟨rfl, Below.refl _ _⟩
  by_cases h6 : x = 6
  · rw [if_pos (.inr h6)] at h
    obtain ⟨rfl, rfl⟩ := Prod.mk.inj (Option.some.inj h)
    subst h6
    clear h h17
    go_enter Try.func36, Try.ntmps36
    go_wp2_with fail
    refine (fnumber2 b off len cap m 0 0 _ hA rfl (by omega)).mono ?_
    rintro e w' ⟨rfl, rfl⟩
    go_wp2_with fail
    refine (fnumber2 b off len cap m 2 2 _ hA rfl (by omega)).mono ?_
    rintro e w' ⟨rfl, rfl⟩
    go_wp2
    refine bodyPost_ret (v := .tuple #[.int .i64 (w2 m 0), .int .i64 (w2 m 2), .bool true]) ?_ rfl ?_
    · simp [results, Try.results36, go_sem]
    exact ⟨rfl, Below.refl _ _⟩
  rw [if_neg (by omega)] at h
  by_cases h1 : x = 1 ∧ echoB m = true
  · rw [if_pos h1] at h
    obtain ⟨rfl, rfl⟩ := Prod.mk.inj (Option.some.inj h)
    obtain ⟨rfl, hE⟩ := h1
    have hN : echoN m = w2 m 4 := if_pos hE
    clear h h17 h6
    go_enter Try.func36, Try.ntmps36
    go_wp2_with fail
    refine (echoNumber_any b off len cap m _ hA h8).mono ?_
    rintro e w1 ⟨rfl, hb1⟩
    rw [hE, hN]
    clear hE hN
    go_wp2
    refine bodyPost_ret (v := .tuple #[.int .i64 (w2 m 4), .int .i64 (w2 m 4), .bool true]) ?_ rfl ?_
    · simp [results, Try.results36, go_sem]
    exact ⟨rfl, hb1⟩
  · rw [if_neg h1] at h; cases h

set_option maxHeartbeats 1000000 in
theorem ports_none (b off len cap : Nat) (x : Int) (m : List Int) (w : World) (hA : At w b off len cap m) (h8 : 8 ≤ len) (h : portsOf x m = none) :
    Calls Try.prog 36 #[.int .i64 x, .slice (some ⟨b, off, none⟩) len cap] w fun e w' => ∃ f t, e = .returned (.tuple #[.int .i64 f, .int .i64 t, .bool false]) ∧ Below w.heap.size w w' := by
  unfold portsOf at h
  by_cases h17 : x = 17
  · rw [if_pos (.inl h17)] at h; cases h
  by_cases h6 : x = 6
  · rw [if_pos (.inr h6)] at h; cases h
  rw [if_neg (by omega)] at h
  by_cases h1 : x = 1
  · have hE : echoB m = false := by
      rcases hq : echoB m with _ | _
      · rfl
      · rw [if_pos ⟨h1, hq⟩] at h; cases h
    subst h1
    clear h h17 h6
    go_enter Try.func36, Try.ntmps36
    go_wp2_with fail
    refine (echoNumber_any b off len cap m _ hA h8).mono ?_
    rintro e w1 ⟨rfl, hb1⟩
    rw [hE]
    clear hE
    go_wp2
    refine bodyPost_ret (v := .tuple #[.int .i64 (echoN m), .int .i64 (echoN m), .bool false]) ?_ rfl ?_
    · simp [results, Try.results36, go_sem]
    exact ⟨_, _, rfl, hb1⟩
  have g1 : (x == 17) = false := by simpa using h17
  have g2 : (x == 6) = false := by simpa using h6
  have g3 : (x == 1) = false := by simpa using h1
  clear h h17 h6 h1
  go_enter Try.func36, Try.ntmps36
  go_wp2
  refine bodyPost_ret (v := .tuple #[.int .i64 0, .int .i64 0, .bool false]) ?_ rfl ?_
  · simp [results, Try.results36, go_sem]
  exact ⟨_, _, rfl, Below.refl _ _⟩
end Go.Proofs.Ytdejjokgchbgnaa

namespace Go.Proofs.Ytdejjokgchbgnaa
open Go.RowKit
attribute [local go_sem ↓] Go.wp_at_zero Go.wp_at_succ

theorem head_nat (l : List Int) (g : Head l) : ∃ h : Nat, hdOf l = (h : Int) := by
  have := g.d
  exact ⟨(hdOf l).toNat, by omega⟩

@[reducible] def inC (x : Inn) : Array Value := #[.int .i64 x.proto, .int .u32 x.sa, .int .i64 x.sp, .int .u32 x.da, .int .i64 x.dp]

/-- What is quoted, laid into the five cells of block n. -/
@[reducible] def laidI (w : World) (n : Nat) (x : Inn) : World :=
  ((((w.setCell ⟨n, 0, none⟩ (.int .i64 x.proto)).setCell ⟨n, 1, none⟩ (.int .u32 x.sa)).setCell ⟨n, 2, none⟩ (.int .i64 x.sp)).setCell ⟨n, 3, none⟩ (.int .u32 x.da)).setCell ⟨n, 4, none⟩ (.int .i64 x.dp)

theorem laidI_below {w w' : World} {n : Nat} (h : Below n w w') (x : Inn) : Below n w (laidI w' n x) := by
  have hle : n ≤ n := Nat.le_refl _
  exact (((((h.setCell hle _).setCell hle _).setCell hle _).setCell hle _).setCell hle _)

theorem inC_cells {w w' : World} {t : TypeId} (hb : Below (w.alloc (.cells (inC Inn.zero) t)).heap.size (w.alloc (.cells (inC Inn.zero) t)) w') :
    (w'.cell? ⟨w.heap.size, 0, none⟩ = some (.int .i64 0) ∧ w'.cell? ⟨w.heap.size, 1, none⟩ = some (.int .u32 0) ∧ w'.cell? ⟨w.heap.size, 2, none⟩ = some (.int .i64 0) ∧ w'.cell? ⟨w.heap.size, 3, none⟩ = some (.int .u32 0) ∧ w'.cell? ⟨w.heap.size, 4, none⟩ = some (.int .i64 0)) ∧ ∀ i, w'.frozen? ⟨w.heap.size, i, none⟩ = false := by
  refine ⟨⟨box_cell hb 0 _ rfl, box_cell hb 1 _ rfl, box_cell hb 2 _ rfl, box_cell hb 3 _ rfl, box_cell hb 4 _ rfl⟩, fun i => ?_⟩
  rw [hb.frozen (by simp), World.frozen?_alloc_mark w (inC Inn.zero) t 0 0 i]; simp

theorem quote_head (a : Option Addr) (len cap : Nat) (w : World) (hbh : ∀ W, Below w.heap.size w W → Calls Try.prog 34 #[.slice a len cap] W fun e w' => e = .returned (.tuple #[.slice none 0 0, .bool false]) ∧ w' = W) :
    Calls Try.prog 15 #[.slice a len cap] w fun e w' => e = .returned (.tuple #[inV Inn.zero, .bool false]) ∧ Below w.heap.size w w' := by
  go_enter Try.func15, Try.ntmps15
  go_wp2_with fail
  refine (hbh _ (below_alloc _ _)).mono ?_
  rintro e w' ⟨rfl, rfl⟩
  go_wp2
  refine bodyPost_ret (v := .tuple #[inV Inn.zero, .bool false]) ?_ rfl ?_
  · simp [results, Try.results15, go_sem, Inn.zero]
  exact ⟨rfl, below_alloc _ _⟩

set_option maxHeartbeats 2000000 in
theorem quote_part (b off len cap h : Nat) (l : List Int) (w : World) (hA : At w b off len cap l) (hh : hdOf l = (h : Int)) (g : Head l) (ho : ¬ w2 l 6 % 8192 = 0) :
    Calls Try.prog 15 #[.slice (some ⟨b, off, none⟩) len cap] w fun e w' => e = .returned (.tuple #[inV Inn.zero, .bool false]) ∧ Below w.heap.size w w' := by
  have hL := hA.len
  have g1 := g.a
  rw [hL] at g1
  obtain ⟨x6, y6⟩ := w2_bd l hA.bytes 6
  have hm := mask13_u (w2 l 6) x6 y6
  have hne : (w2 l 6 % 8192 != 0) = true := by rw [bne_iff_ne]; exact ho
  have hA0 := hA.later (below_alloc w (.cells (inC Inn.zero) 35))
  have hbh := behind_ok b off len cap h l _ hA0 hh g
  have hn6 := fnumber2 b off len cap l 6 6 _ hA0 rfl (by omega)
  clear ho hA hA0 g hh hL
  go_enter Try.func15, Try.ntmps15
  go_wp2_with fail
  refine hbh.mono ?_
  rintro e w' ⟨rfl, rfl⟩
  go_wp2_with fail
  refine hn6.mono ?_
  rintro e w' ⟨rfl, rfl⟩
  go_wp2
  refine bodyPost_ret (v := .tuple #[inV Inn.zero, .bool false]) ?_ rfl ?_
  · simp [results, Try.results15, go_sem, Inn.zero]
  exact ⟨rfl, below_alloc _ _⟩

set_option maxHeartbeats 2000000 in
theorem quote_none (b off len cap h : Nat) (l : List Int) (w : World) (hA : At w b off len cap l) (hh : hdOf l = (h : Int)) (g : Head l) (ho : w2 l 6 % 8192 = 0) (hp : portsOf (b1 l 9) (l.drop h) = none) :
    Calls Try.prog 15 #[.slice (some ⟨b, off, none⟩) len cap] w fun e w' => e = .returned (.tuple #[inV Inn.zero, .bool false]) ∧ Below w.heap.size w w' := by
  have hL := hA.len
  have g1 := g.a
  have g4 := g.e
  rw [hL] at g1 g4
  obtain ⟨x6, y6⟩ := w2_bd l hA.bytes 6
  obtain ⟨x9, y9⟩ := b1_bd l hA.bytes 9
  have hm := mask13_u (w2 l 6) x6 y6
  have hne : (w2 l 6 % 8192 != 0) = false := by rw [ho]; rfl
  have v9 : IntKind.i64.wrap (b1 l 9) = b1 l 9 := i64_id _ x9 (by omega)
  have hA0 := hA.later (below_alloc w (.cells (inC Inn.zero) 35))
  have hbh := behind_ok b off len cap h l _ hA0 hh g
  have hn6 := fnumber2 b off len cap l 6 6 _ hA0 rfl (by omega)
  have hn9 := fnumber1 b off len cap l 9 9 _ hA0 rfl (by omega)
  have hpo := ports_none b (off + h) (len - h) (cap - h) (b1 l 9) (l.drop h) _ (at_drop hA0 h (by omega)) (by omega) hp
  clear ho hA hA0 g hh hL hp g1 g4
  go_enter Try.func15, Try.ntmps15
  go_wp2_with fail
  refine hbh.mono ?_
  rintro e w' ⟨rfl, rfl⟩
  go_wp2_with fail
  refine hn6.mono ?_
  rintro e w' ⟨rfl, rfl⟩
  go_wp2_with fail
  refine hn9.mono ?_
  rintro e w' ⟨rfl, rfl⟩
  go_wp2_with fail
  refine hpo.mono ?_
  rintro e w1 ⟨f, t, rfl, hb1⟩
  obtain ⟨⟨c0, c1, c2, c3, c4⟩, hfz⟩ := inC_cells hb1
  have bel := laidI_below (below_trans (below_alloc _ _) hb1) Inn.zero
  clear hb1 hbh hn6 hn9 hpo
  go_wp2
  refine bodyPost_ret (v := .tuple #[inV Inn.zero, .bool false]) ?_ rfl ?_
  · simp [results, Try.results15, go_sem, Inn.zero, c0, c1, c2, c3, c4]
  exact ⟨rfl, bel⟩

set_option maxHeartbeats 2000000 in
theorem quote_some (b off len cap h : Nat) (l : List Int) (f t : Int) (w : World) (hA : At w b off len cap l) (hh : hdOf l = (h : Int)) (g : Head l) (ho : w2 l 6 % 8192 = 0) (hp : portsOf (b1 l 9) (l.drop h) = some (f, t)) :
    Calls Try.prog 15 #[.slice (some ⟨b, off, none⟩) len cap] w fun e w' => e = .returned (.tuple #[inV (innOf l (f, t)), .bool true]) ∧ Below w.heap.size w w' := by
  have hL := hA.len
  have g1 := g.a
  have g4 := g.e
  rw [hL] at g1 g4
  obtain ⟨x6, y6⟩ := w2_bd l hA.bytes 6
  obtain ⟨x9, y9⟩ := b1_bd l hA.bytes 9
  obtain ⟨x12, y12⟩ := w4_bd l hA.bytes 12
  obtain ⟨x16, y16⟩ := w4_bd l hA.bytes 16
  have hm := mask13_u (w2 l 6) x6 y6
  have hne : (w2 l 6 % 8192 != 0) = false := by rw [ho]; rfl
  have v9 : IntKind.i64.wrap (b1 l 9) = b1 l 9 := i64_id _ x9 (by omega)
  have v12 : IntKind.u32.wrap (w4 l 12) = w4 l 12 := u32_id _ x12 (by omega)
  have v16 : IntKind.u32.wrap (w4 l 16) = w4 l 16 := u32_id _ x16 (by omega)
  have hA0 := hA.later (below_alloc w (.cells (inC Inn.zero) 35))
  have hbh := behind_ok b off len cap h l _ hA0 hh g
  have hn6 := fnumber2 b off len cap l 6 6 _ hA0 rfl (by omega)
  have hn9 := fnumber1 b off len cap l 9 9 _ hA0 rfl (by omega)
  have hpo := ports_some b (off + h) (len - h) (cap - h) (b1 l 9) f t (l.drop h) _ (at_drop hA0 h (by omega)) (by omega) hp
  clear ho g hh hL hp
  go_enter Try.func15, Try.ntmps15
  go_wp2_with fail
  refine hbh.mono ?_
  rintro e w' ⟨rfl, rfl⟩
  go_wp2_with fail
  refine hn6.mono ?_
  rintro e w' ⟨rfl, rfl⟩
  go_wp2_with fail
  refine hn9.mono ?_
  rintro e w' ⟨rfl, rfl⟩
  go_wp2_with fail
  refine hpo.mono ?_
  rintro e w1 ⟨rfl, hb1⟩
  have hA1 := hA0.later hb1
  have hn12 := fnumber4 b off len cap l 12 12 _ hA1 rfl (by omega)
  have hn16 := fnumber4 b off len cap l 16 16 _ hA1 rfl (by omega)
  obtain ⟨⟨c0, c1, c2, c3, c4⟩, hfz⟩ := inC_cells hb1
  have bel := laidI_below (below_trans (below_alloc _ _) hb1) (innOf l (f, t))
  clear hb1 hbh hn6 hn9 hpo hA hA0 hA1 g1 g4
  go_wp2_with fail
  refine hn12.mono ?_
  rintro e w' ⟨rfl, rfl⟩
  go_wp2_with fail
  refine hn16.mono ?_
  rintro e w' ⟨rfl, rfl⟩
  clear hn12 hn16
  go_wp2
  refine bodyPost_ret (v := .tuple #[inV (innOf l (f, t)), .bool true]) ?_ rfl ?_
  · simp [results, Try.results15, go_sem, innOf, c0, c1, c2, c3, c4]
  exact ⟨rfl, bel⟩

theorem quote_no (a : Option Addr) (b off len cap : Nat) (l : List Int) (w : World) (ha : a = some ⟨b, off, none⟩ ∨ l = []) (hA : At w b off len cap l) (h : quoteO l = none) :
    Calls Try.prog 15 #[.slice a len cap] w fun e w' => e = .returned (.tuple #[inV Inn.zero, .bool false]) ∧ Below w.heap.size w w' := by
  have hL := hA.len
  by_cases h20 : len < 20
  · exact quote_head a len cap w (fun W _ => behind_short a len cap W h20)
  rcases ha with rfl | rfl
  case inr => simp at hL; omega
  by_cases g : Head l
  · obtain ⟨k, hk⟩ := head_nat l g
    unfold quoteO at h
    by_cases ho : w2 l 6 % 8192 = 0
    · rw [if_pos ⟨g, ho⟩, hk, Int.toNat_natCast, Option.map_eq_none_iff] at h
      exact quote_none b off len cap k l w hA hk g ho h
    · exact quote_part b off len cap k l w hA hk g ho
  · exact quote_head _ len cap w (fun W hW => behind_no b off len cap l W (hA.later hW) (by omega) g)

theorem quote_ok (b off len cap : Nat) (l : List Int) (x : Inn) (w : World) (hA : At w b off len cap l) (h : quoteO l = some x) :
    Calls Try.prog 15 #[.slice (some ⟨b, off, none⟩) len cap] w fun e w' => e = .returned (.tuple #[inV x, .bool true]) ∧ Below w.heap.size w w' := by
  unfold quoteO at h
  by_cases g : Head l ∧ w2 l 6 % 8192 = 0
  · rw [if_pos g] at h
    obtain ⟨k, hk⟩ := head_nat l g.1
    rw [hk, Int.toNat_natCast] at h
    obtain ⟨⟨f, t⟩, hp, rfl⟩ := Option.map_eq_some_iff.1 h
    exact quote_some b off len cap k l f t w hA hk g.1 g.2 hp
  · rw [if_neg g] at h; cases h
end Go.Proofs.Ytdejjokgchbgnaa

namespace Go.Proofs.Ytdejjokgchbgnaa
open Go.RowKit

theorem number1 (b off len cap : Nat) (l : List Int) (q : Int) (k : Nat) (w : World) (hA : At w b off len cap l) (hq : q = (k : Int)) (hk : k + 1 ≤ len) :
    Calls Try.prog 56 #[.slice (some ⟨b, off, none⟩) len cap, .int .i64 q, .int .i64 1] w fun e w' => e = .returned (.int .i64 (b1 l k)) ∧ w' = w := by
  subst hq
  have := number_yes b off len cap l k 1 w hA.cap1 hA.cap2 hA.len hA.bytes hA.sees (by decide) (by unfold holdsB; simp; omega)
  rwa [getV1 l k (by rw [hA.len]; omega)] at this

theorem number2 (b off len cap : Nat) (l : List Int) (q : Int) (k : Nat) (w : World) (hA : At w b off len cap l) (hq : q = (k : Int)) (hk : k + 2 ≤ len) :
    Calls Try.prog 56 #[.slice (some ⟨b, off, none⟩) len cap, .int .i64 q, .int .i64 2] w fun e w' => e = .returned (.int .i64 (w2 l k)) ∧ w' = w := by
  subst hq
  have := number_yes b off len cap l k 2 w hA.cap1 hA.cap2 hA.len hA.bytes hA.sees (by decide) (by unfold holdsB; simp; omega)
  rwa [getV2 l k (by rw [hA.len]; omega)] at this

theorem number4 (b off len cap : Nat) (l : List Int) (q : Int) (k : Nat) (w : World) (hA : At w b off len cap l) (hq : q = (k : Int)) (hk : k + 4 ≤ len) :
    Calls Try.prog 56 #[.slice (some ⟨b, off, none⟩) len cap, .int .i64 q, .int .i64 4] w fun e w' => e = .returned (.int .i64 (w4 l k)) ∧ w' = w := by
  subst hq
  have := number_yes b off len cap l k 4 w hA.cap1 hA.cap2 hA.len hA.bytes hA.sees (by decide) (by unfold holdsB; simp; omega)
  rwa [getV4 l k (by rw [hA.len]; omega)] at this

theorem measured_long (a : Option Addr) (len cap : Nat) (w : World) (h : 2048 < len) :
    Calls Try.prog 41 #[.slice a len cap] w fun e w' => e = .panicked (chainOf 3) ∧ Below w.heap.size w w' := by
  have h' : (2048 : Int) < len := by omega
  go_enter Try.func41, Try.ntmps41
  go_wp2_with fail
  refine (refuse_yes _ _).mono ?_
  rintro e w' ⟨rfl, rfl⟩
  go_wp2
  exact ⟨rfl, rfl, Below.refl _ _⟩

theorem measured_short (a : Option Addr) (len cap : Nat) (w : World) (h : len < 20) :
    Calls Try.prog 41 #[.slice a len cap] w fun e w' => e = .panicked (chainOf 2) ∧ Below w.heap.size w w' := by
  have h0 : ¬ (2048 : Int) < len := by omega
  have h' : (len : Int) < 20 := by omega
  go_enter Try.func41, Try.ntmps41
  go_wp2_with fail
  refine (refuse_no _ _).mono ?_
  rintro e w' ⟨rfl, rfl⟩
  go_wp2_with fail
  refine (refuse_yes _ _).mono ?_
  rintro e w' ⟨rfl, rfl⟩
  go_wp2
  exact ⟨rfl, rfl, Below.refl _ _⟩

/-- The sum of the first bytes, as measured asks for it. -/
theorem sum_part (b off len cap n : Nat) (q : Int) (l : List Int) (w : World) (t : TypeId) (hA : At w b off len cap l) (hq : q = (n : Int)) (hn : n ≤ len) (hl : len ≤ 2048) :
    Calls Try.prog 57 #[.slice (some ⟨w.heap.size, 0, none⟩) 1 1] (w.alloc (.cells #[.slice (some ⟨b, off, none⟩) q.toNat cap] t)) fun e w' => e = .returned (.int .i64 (fold16 (ws (l.take n)))) ∧ w' = w.alloc (.cells #[.slice (some ⟨b, off, none⟩) q.toNat cap] t) := by
  subst hq
  have hlen : (l.take n).length = n := by rw [List.length_take, hA.len]; omega
  have c1 := hA.cap1
  refine sum_one w _ _ (l.take n) t rfl ⟨_, cap, b, off, by rw [hlen, Int.toNat_natCast], by omega, hA.cap2, isBytes_take hA.bytes n, .inl rfl, ?_⟩ (by omega)
  intro i hi
  rw [hlen] at hi
  have : (l.take n).getD i 0 = l.getD i 0 := by simp [List.getD, hi]
  rw [this]
  exact hA.sees i (by rw [hA.len]; omega)

set_option maxHeartbeats 2000000 in
theorem measured_ver (b off len cap : Nat) (l : List Int) (w : World) (hA : At w b off len cap l) (g1 : len ≤ 2048) (g2 : 20 ≤ len) (h : b1 l 0 / 16 ≠ 4) :
    Calls Try.prog 41 #[.slice (some ⟨b, off, none⟩) len cap] w fun e w' => e = .panicked (chainOf 4) ∧ Below w.heap.size w w' := by
  have x0 := b1_bd l hA.bytes 0
  have x2 := w2_bd l hA.bytes 2
  have x6 := w2_bd l hA.bytes 6
  unfold hdOf at *
  have hm4 := mask4 (b1 l 0) x0.1 (by omega)
  have hc := hA.cap1
  have hv : (b1 l 0 / 16 != 4) = true := by rw [bne_iff_ne]; exact h
  clear h
  go_enter Try.func41, Try.ntmps41
  go_wp2_with fail
  refine (refuse_no' _ _ _ (by simp <;> omega)).mono ?_
  rintro e w' ⟨rfl, rfl⟩
  go_wp2_with fail
  refine (refuse_no' _ _ _ (by simp <;> omega)).mono ?_
  rintro e w' ⟨rfl, rfl⟩
  go_wp2_with fail
  refine (number1 b off len cap l 0 0 _ hA rfl (by omega)).mono ?_
  rintro e w' ⟨rfl, rfl⟩
  go_wp2_with fail
  refine (refuse_yes' _ _ _ (by simp <;> omega)).mono ?_
  rintro e w' ⟨rfl, rfl⟩
  go_wp2
  exact ⟨rfl, rfl, Below.refl _ _⟩

set_option maxHeartbeats 2000000 in
theorem measured_few (b off len cap : Nat) (l : List Int) (w : World) (hA : At w b off len cap l) (g1 : len ≤ 2048) (g2 : 20 ≤ len) (g3 : b1 l 0 / 16 = 4) (h : hdOf l < 20) :
    Calls Try.prog 41 #[.slice (some ⟨b, off, none⟩) len cap] w fun e w' => e = .panicked (chainOf 4) ∧ Below w.heap.size w w' := by
  have x0 := b1_bd l hA.bytes 0
  have x2 := w2_bd l hA.bytes 2
  have x6 := w2_bd l hA.bytes 6
  unfold hdOf at *
  have hm4 := mask4 (b1 l 0) x0.1 (by omega)
  have hc := hA.cap1
  go_enter Try.func41, Try.ntmps41
  go_wp2_with fail
  refine (refuse_no' _ _ _ (by simp <;> omega)).mono ?_
  rintro e w' ⟨rfl, rfl⟩
  go_wp2_with fail
  refine (refuse_no' _ _ _ (by simp <;> omega)).mono ?_
  rintro e w' ⟨rfl, rfl⟩
  go_wp2_with fail
  refine (number1 b off len cap l 0 0 _ hA rfl (by omega)).mono ?_
  rintro e w' ⟨rfl, rfl⟩
  go_wp2_with fail
  refine (refuse_yes' _ _ _ (by simp <;> omega)).mono ?_
  rintro e w' ⟨rfl, rfl⟩
  go_wp2
  exact ⟨rfl, rfl, Below.refl _ _⟩

set_option maxHeartbeats 2000000 in
theorem measured_head (b off len cap : Nat) (l : List Int) (w : World) (hA : At w b off len cap l) (g1 : len ≤ 2048) (g2 : 20 ≤ len) (g3 : b1 l 0 / 16 = 4) (g4 : 20 ≤ hdOf l) (h : (len : Int) < hdOf l) :
    Calls Try.prog 41 #[.slice (some ⟨b, off, none⟩) len cap] w fun e w' => e = .panicked (chainOf 2) ∧ Below w.heap.size w w' := by
  have x0 := b1_bd l hA.bytes 0
  have x2 := w2_bd l hA.bytes 2
  have x6 := w2_bd l hA.bytes 6
  unfold hdOf at *
  have hm4 := mask4 (b1 l 0) x0.1 (by omega)
  have hc := hA.cap1
  go_enter Try.func41, Try.ntmps41
  go_wp2_with fail
  refine (refuse_no' _ _ _ (by simp <;> omega)).mono ?_
  rintro e w' ⟨rfl, rfl⟩
  go_wp2_with fail
  refine (refuse_no' _ _ _ (by simp <;> omega)).mono ?_
  rintro e w' ⟨rfl, rfl⟩
  go_wp2_with fail
  refine (number1 b off len cap l 0 0 _ hA rfl (by omega)).mono ?_
  rintro e w' ⟨rfl, rfl⟩
  go_wp2_with fail
  refine (refuse_no' _ _ _ (by simp <;> omega)).mono ?_
  rintro e w' ⟨rfl, rfl⟩
  go_wp2_with fail
  refine (refuse_yes' _ _ _ (by simp <;> omega)).mono ?_
  rintro e w' ⟨rfl, rfl⟩
  go_wp2
  exact ⟨rfl, rfl, Below.refl _ _⟩

set_option maxHeartbeats 2000000 in
theorem measured_less (b off len cap : Nat) (l : List Int) (w : World) (hA : At w b off len cap l) (g1 : len ≤ 2048) (g2 : 20 ≤ len) (g3 : b1 l 0 / 16 = 4) (g4 : 20 ≤ hdOf l) (g5 : hdOf l ≤ len) (h : w2 l 2 < hdOf l) :
    Calls Try.prog 41 #[.slice (some ⟨b, off, none⟩) len cap] w fun e w' => e = .panicked (chainOf 4) ∧ Below w.heap.size w w' := by
  have x0 := b1_bd l hA.bytes 0
  have x2 := w2_bd l hA.bytes 2
  have x6 := w2_bd l hA.bytes 6
  unfold hdOf at *
  have hm4 := mask4 (b1 l 0) x0.1 (by omega)
  have hc := hA.cap1
  go_enter Try.func41, Try.ntmps41
  go_wp2_with fail
  refine (refuse_no' _ _ _ (by simp <;> omega)).mono ?_
  rintro e w' ⟨rfl, rfl⟩
  go_wp2_with fail
  refine (refuse_no' _ _ _ (by simp <;> omega)).mono ?_
  rintro e w' ⟨rfl, rfl⟩
  go_wp2_with fail
  refine (number1 b off len cap l 0 0 _ hA rfl (by omega)).mono ?_
  rintro e w' ⟨rfl, rfl⟩
  go_wp2_with fail
  refine (refuse_no' _ _ _ (by simp <;> omega)).mono ?_
  rintro e w' ⟨rfl, rfl⟩
  go_wp2_with fail
  refine (refuse_no' _ _ _ (by simp <;> omega)).mono ?_
  rintro e w' ⟨rfl, rfl⟩
  go_wp2_with fail
  refine (number2 b off len cap l 2 2 _ hA rfl (by omega)).mono ?_
  rintro e w' ⟨rfl, rfl⟩
  go_wp2_with fail
  refine (refuse_yes' _ _ _ (by simp <;> omega)).mono ?_
  rintro e w' ⟨rfl, rfl⟩
  go_wp2
  exact ⟨rfl, rfl, Below.refl _ _⟩

set_option maxHeartbeats 2000000 in
theorem measured_flag (b off len cap : Nat) (l : List Int) (w : World) (hA : At w b off len cap l) (g1 : len ≤ 2048) (g2 : 20 ≤ len) (g3 : b1 l 0 / 16 = 4) (g4 : 20 ≤ hdOf l) (g5 : hdOf l ≤ len) (g6 : hdOf l ≤ w2 l 2) (h : 32768 ≤ w2 l 6) :
    Calls Try.prog 41 #[.slice (some ⟨b, off, none⟩) len cap] w fun e w' => e = .panicked (chainOf 4) ∧ Below w.heap.size w w' := by
  have x0 := b1_bd l hA.bytes 0
  have x2 := w2_bd l hA.bytes 2
  have x6 := w2_bd l hA.bytes 6
  unfold hdOf at *
  have hm4 := mask4 (b1 l 0) x0.1 (by omega)
  have hc := hA.cap1
  have hb15 : (bits .and .i64 (w2 l 6) 32768 != 0) = true := by rw [bit15 _ x6.1 x6.2]; simp; omega
  go_enter Try.func41, Try.ntmps41
  go_wp2_with fail
  refine (refuse_no' _ _ _ (by simp <;> omega)).mono ?_
  rintro e w' ⟨rfl, rfl⟩
  go_wp2_with fail
  refine (refuse_no' _ _ _ (by simp <;> omega)).mono ?_
  rintro e w' ⟨rfl, rfl⟩
  go_wp2_with fail
  refine (number1 b off len cap l 0 0 _ hA rfl (by omega)).mono ?_
  rintro e w' ⟨rfl, rfl⟩
  go_wp2_with fail
  refine (refuse_no' _ _ _ (by simp <;> omega)).mono ?_
  rintro e w' ⟨rfl, rfl⟩
  go_wp2_with fail
  refine (refuse_no' _ _ _ (by simp <;> omega)).mono ?_
  rintro e w' ⟨rfl, rfl⟩
  go_wp2_with fail
  refine (number2 b off len cap l 2 2 _ hA rfl (by omega)).mono ?_
  rintro e w' ⟨rfl, rfl⟩
  go_wp2_with fail
  refine (number2 b off len cap l 6 6 _ hA rfl (by omega)).mono ?_
  rintro e w' ⟨rfl, rfl⟩
  go_wp2_with fail
  refine (refuse_yes' _ _ _ (by simp <;> omega)).mono ?_
  rintro e w' ⟨rfl, rfl⟩
  go_wp2
  exact ⟨rfl, rfl, Below.refl _ _⟩

set_option maxHeartbeats 2000000 in
theorem measured_total (b off len cap : Nat) (l : List Int) (w : World) (hA : At w b off len cap l) (g1 : len ≤ 2048) (g2 : 20 ≤ len) (g3 : b1 l 0 / 16 = 4) (g4 : 20 ≤ hdOf l) (g5 : hdOf l ≤ len) (g6 : hdOf l ≤ w2 l 2) (g7 : w2 l 6 < 32768) (h : (len : Int) < w2 l 2) :
    Calls Try.prog 41 #[.slice (some ⟨b, off, none⟩) len cap] w fun e w' => e = .panicked (chainOf 2) ∧ Below w.heap.size w w' := by
  have x0 := b1_bd l hA.bytes 0
  have x2 := w2_bd l hA.bytes 2
  have x6 := w2_bd l hA.bytes 6
  unfold hdOf at *
  have hm4 := mask4 (b1 l 0) x0.1 (by omega)
  have hc := hA.cap1
  have hb15 : (bits .and .i64 (w2 l 6) 32768 != 0) = false := by rw [bit15 _ x6.1 x6.2]; simp; omega
  go_enter Try.func41, Try.ntmps41
  go_wp2_with fail
  refine (refuse_no' _ _ _ (by simp <;> omega)).mono ?_
  rintro e w' ⟨rfl, rfl⟩
  go_wp2_with fail
  refine (refuse_no' _ _ _ (by simp <;> omega)).mono ?_
  rintro e w' ⟨rfl, rfl⟩
  go_wp2_with fail
  refine (number1 b off len cap l 0 0 _ hA rfl (by omega)).mono ?_
  rintro e w' ⟨rfl, rfl⟩
  go_wp2_with fail
  refine (refuse_no' _ _ _ (by simp <;> omega)).mono ?_
  rintro e w' ⟨rfl, rfl⟩
  go_wp2_with fail
  refine (refuse_no' _ _ _ (by simp <;> omega)).mono ?_
  rintro e w' ⟨rfl, rfl⟩
  go_wp2_with fail
  refine (number2 b off len cap l 2 2 _ hA rfl (by omega)).mono ?_
  rintro e w' ⟨rfl, rfl⟩
  go_wp2_with fail
  refine (number2 b off len cap l 6 6 _ hA rfl (by omega)).mono ?_
  rintro e w' ⟨rfl, rfl⟩
  go_wp2_with fail
  refine (refuse_no' _ _ _ (by simp <;> omega)).mono ?_
  rintro e w' ⟨rfl, rfl⟩
  go_wp2_with fail
  refine (refuse_yes' _ _ _ (by simp <;> omega)).mono ?_
  rintro e w' ⟨rfl, rfl⟩
  go_wp2
  exact ⟨rfl, rfl, Below.refl _ _⟩

set_option maxHeartbeats 2000000 in
theorem measured_sum (b off len cap : Nat) (l : List Int) (w : World) (hA : At w b off len cap l) (g1 : len ≤ 2048) (g2 : 20 ≤ len) (g3 : b1 l 0 / 16 = 4) (g4 : 20 ≤ hdOf l) (g5 : hdOf l ≤ len) (g6 : hdOf l ≤ w2 l 2) (g7 : w2 l 6 < 32768) (g8 : w2 l 2 ≤ len) (h : fold16 (ws (l.take (hdOf l).toNat)) ≠ 65535) :
    Calls Try.prog 41 #[.slice (some ⟨b, off, none⟩) len cap] w fun e w' => e = .panicked (chainOf 5) ∧ Below w.heap.size w w' := by
  have x0 := b1_bd l hA.bytes 0
  have x2 := w2_bd l hA.bytes 2
  have x6 := w2_bd l hA.bytes 6
  unfold hdOf at *
  have hm4 := mask4 (b1 l 0) x0.1 (by omega)
  have hc := hA.cap1
  have hb15 : (bits .and .i64 (w2 l 6) 32768 != 0) = false := by rw [bit15 _ x6.1 x6.2]; simp; omega
  have H : Hid (fold16 (ws (l.take (b1 l 0 % 16 * 4).toNat)) ≠ 65535) := h
  clear h
  go_enter Try.func41, Try.ntmps41
  go_wp2_with fail
  refine (refuse_no' _ _ _ (by simp <;> omega)).mono ?_
  rintro e w' ⟨rfl, rfl⟩
  go_wp2_with fail
  refine (refuse_no' _ _ _ (by simp <;> omega)).mono ?_
  rintro e w' ⟨rfl, rfl⟩
  go_wp2_with fail
  refine (number1 b off len cap l 0 0 _ hA rfl (by omega)).mono ?_
  rintro e w' ⟨rfl, rfl⟩
  go_wp2_with fail
  refine (refuse_no' _ _ _ (by simp <;> omega)).mono ?_
  rintro e w' ⟨rfl, rfl⟩
  go_wp2_with fail
  refine (refuse_no' _ _ _ (by simp <;> omega)).mono ?_
  rintro e w' ⟨rfl, rfl⟩
  go_wp2_with fail
  refine (number2 b off len cap l 2 2 _ hA rfl (by omega)).mono ?_
  rintro e w' ⟨rfl, rfl⟩
  go_wp2_with fail
  refine (number2 b off len cap l 6 6 _ hA rfl (by omega)).mono ?_
  rintro e w' ⟨rfl, rfl⟩
  go_wp2_with fail
  refine (refuse_no' _ _ _ (by simp <;> omega)).mono ?_
  rintro e w' ⟨rfl, rfl⟩
  go_wp2_with fail
  refine (refuse_no' _ _ _ (by simp <;> omega)).mono ?_
  rintro e w' ⟨rfl, rfl⟩
  go_wp2_with fail
  refine (sum_part b off len cap (b1 l 0 % 16 * 4).toNat (b1 l 0 % 16 * 4) l _ _ hA (by omega) (by omega) (by omega)).mono ?_
  rintro e w' ⟨rfl, rfl⟩
  go_wp2_with fail
  refine (refuse_yes' _ _ _ (by rw [bne_iff_ne]; exact H.out)).mono ?_
  rintro e w' ⟨rfl, rfl⟩
  go_wp2
  exact ⟨rfl, rfl, below_alloc _ _⟩

set_option maxHeartbeats 2000000 in
theorem measured_good (b off len cap : Nat) (l : List Int) (w : World) (hA : At w b off len cap l) (g1 : len ≤ 2048) (g2 : 20 ≤ len) (g3 : b1 l 0 / 16 = 4) (g4 : 20 ≤ hdOf l) (g5 : hdOf l ≤ len) (g6 : hdOf l ≤ w2 l 2) (g7 : w2 l 6 < 32768) (g8 : w2 l 2 ≤ len) (h : fold16 (ws (l.take (hdOf l).toNat)) = 65535) :
    Calls Try.prog 41 #[.slice (some ⟨b, off, none⟩) len cap] w fun e w' => e = .returned (.tuple #[.int .i64 (hdOf l), .int .i64 (w2 l 2)]) ∧ Below w.heap.size w w' := by
  have x0 := b1_bd l hA.bytes 0
  have x2 := w2_bd l hA.bytes 2
  have x6 := w2_bd l hA.bytes 6
  unfold hdOf at *
  have hm4 := mask4 (b1 l 0) x0.1 (by omega)
  have hc := hA.cap1
  have hb15 : (bits .and .i64 (w2 l 6) 32768 != 0) = false := by rw [bit15 _ x6.1 x6.2]; simp; omega
  have H : Hid (fold16 (ws (l.take (b1 l 0 % 16 * 4).toNat)) = 65535) := h
  clear h
  go_enter Try.func41, Try.ntmps41
  go_wp2_with fail
  refine (refuse_no' _ _ _ (by simp <;> omega)).mono ?_
  rintro e w' ⟨rfl, rfl⟩
  go_wp2_with fail
  refine (refuse_no' _ _ _ (by simp <;> omega)).mono ?_
  rintro e w' ⟨rfl, rfl⟩
  go_wp2_with fail
  refine (number1 b off len cap l 0 0 _ hA rfl (by omega)).mono ?_
  rintro e w' ⟨rfl, rfl⟩
  go_wp2_with fail
  refine (refuse_no' _ _ _ (by simp <;> omega)).mono ?_
  rintro e w' ⟨rfl, rfl⟩
  go_wp2_with fail
  refine (refuse_no' _ _ _ (by simp <;> omega)).mono ?_
  rintro e w' ⟨rfl, rfl⟩
  go_wp2_with fail
  refine (number2 b off len cap l 2 2 _ hA rfl (by omega)).mono ?_
  rintro e w' ⟨rfl, rfl⟩
  go_wp2_with fail
  refine (number2 b off len cap l 6 6 _ hA rfl (by omega)).mono ?_
  rintro e w' ⟨rfl, rfl⟩
  go_wp2_with fail
  refine (refuse_no' _ _ _ (by simp <;> omega)).mono ?_
  rintro e w' ⟨rfl, rfl⟩
  go_wp2_with fail
  refine (refuse_no' _ _ _ (by simp <;> omega)).mono ?_
  rintro e w' ⟨rfl, rfl⟩
  go_wp2_with fail
  refine (sum_part b off len cap (b1 l 0 % 16 * 4).toNat (b1 l 0 % 16 * 4) l _ _ hA (by omega) (by omega) (by omega)).mono ?_
  rintro e w' ⟨rfl, rfl⟩
  rw [H.out]
  go_wp2_with fail
  refine (refuse_no' _ _ _ (by simp)).mono ?_
  rintro e w' ⟨rfl, rfl⟩
  go_wp2
  go_ret2
  exact ⟨rfl, below_alloc _ _⟩

theorem measured_ok (b off len cap : Nat) (l : List Int) (w : World) (hA : At w b off len cap l) (g : Good l) :
    Calls Try.prog 41 #[.slice (some ⟨b, off, none⟩) len cap] w fun e w' => e = .returned (.tuple #[.int .i64 (hdOf l), .int .i64 (w2 l 2)]) ∧ Below w.heap.size w w' := by
  obtain ⟨g1, g2, g3, g4, g5, g6, g7, g8, g9⟩ := g
  rw [hA.len] at g1 g2 g5 g8
  exact measured_good b off len cap l w hA g1 g2 g3 g4 g5 g6 g7 g8 g9

theorem measured_no (a : Option Addr) (b off len cap : Nat) (l : List Int) (w : World) (ha : a = some ⟨b, off, none⟩ ∨ l = []) (hA : At w b off len cap l) (h : ¬ parseE l = 0) :
    Calls Try.prog 41 #[.slice a len cap] w fun e w' => e = .panicked (chainOf (parseE l)) ∧ Below w.heap.size w w' := by
  have hl := hA.len
  obtain ⟨E, hE⟩ : ∃ E, E = parseE l := ⟨_, rfl⟩
  rw [← hE] at h ⊢
  unfold parseE at hE
  rw [hl] at hE
  by_cases h1 : 2048 < len
  · rw [if_pos h1] at hE; subst hE; exact measured_long a len cap w h1
  rw [if_neg h1] at hE
  by_cases h2 : len < 20
  · rw [if_pos h2] at hE; subst hE; exact measured_short a len cap w h2
  rw [if_neg h2] at hE
  rcases ha with rfl | hnil
  case inr => rw [hnil] at hl; simp at hl; omega
  by_cases h3 : b1 l 0 / 16 ≠ 4 ∨ hdOf l < 20
  · rw [if_pos h3] at hE; subst hE; exact (by by_cases h3' : b1 l 0 / 16 = 4; exact measured_few b off len cap l w hA (by omega) (by omega) h3' (by omega); exact measured_ver b off len cap l w hA (by omega) (by omega) h3')
  rw [if_neg h3] at hE
  by_cases h4 : (len : Int) < hdOf l
  · rw [if_pos h4] at hE; subst hE; exact measured_head b off len cap l w hA (by omega) (by omega) (by omega) (by omega) h4
  rw [if_neg h4] at hE
  by_cases h5 : w2 l 2 < hdOf l ∨ 32768 ≤ w2 l 6
  · rw [if_pos h5] at hE; subst hE
    by_cases h6 : w2 l 2 < hdOf l
    · exact measured_less b off len cap l w hA (by omega) (by omega) (by omega) (by omega) (by omega) h6
    · exact measured_flag b off len cap l w hA (by omega) (by omega) (by omega) (by omega) (by omega) (by omega) (by omega)
  rw [if_neg h5] at hE
  by_cases h6 : (len : Int) < w2 l 2
  · rw [if_pos h6] at hE; subst hE; exact measured_total b off len cap l w hA (by omega) (by omega) (by omega) (by omega) (by omega) (by omega) (by omega) h6
  rw [if_neg h6] at hE
  by_cases h7 : fold16 (ws (l.take (hdOf l).toNat)) ≠ 65535
  · rw [if_pos h7] at hE; subst hE; exact measured_sum b off len cap l w hA (by omega) (by omega) (by omega) (by omega) (by omega) (by omega) (by omega) (by omega) h7
  rw [if_neg h7] at hE
  exact absurd hE h
end Go.Proofs.Ytdejjokgchbgnaa

namespace Go.Proofs.Ytdejjokgchbgnaa
open Go.RowKit
attribute [local go_sem ↓] Go.wp_at_zero Go.wp_at_succ

@[reducible] def zeroC : Array Value := #[.int .i64 0, .int .i64 0, .bool false, .bool false, .int .i64 0, .int .i64 0, .int .i64 0, .int .u32 0, .int .u32 0, .slice none 0 0, .slice none 0 0]

theorem zero_cells {w w0 w' : World} {t : TypeId} (h : w0 = w.alloc (.cells zeroC t)) (hb : Below w0.heap.size w0 w') :
    (w'.cell? ⟨w.heap.size, 0, none⟩ = some (.int .i64 0) ∧ w'.cell? ⟨w.heap.size, 1, none⟩ = some (.int .i64 0) ∧ w'.cell? ⟨w.heap.size, 2, none⟩ = some (.bool false) ∧ w'.cell? ⟨w.heap.size, 3, none⟩ = some (.bool false) ∧
    w'.cell? ⟨w.heap.size, 4, none⟩ = some (.int .i64 0) ∧ w'.cell? ⟨w.heap.size, 5, none⟩ = some (.int .i64 0) ∧ w'.cell? ⟨w.heap.size, 6, none⟩ = some (.int .i64 0) ∧ w'.cell? ⟨w.heap.size, 7, none⟩ = some (.int .u32 0) ∧
    w'.cell? ⟨w.heap.size, 8, none⟩ = some (.int .u32 0) ∧ w'.cell? ⟨w.heap.size, 9, none⟩ = some (.slice none 0 0) ∧ w'.cell? ⟨w.heap.size, 10, none⟩ = some (.slice none 0 0)) ∧ ∀ i, w'.frozen? ⟨w.heap.size, i, none⟩ = false := by
  subst h
  have hc : ∀ i v, zeroC[i]? = some v → w'.cell? ⟨w.heap.size, i, none⟩ = some v := by
    intro i v hv
    refine cell_later hb ?_
    rw [World.cell?_alloc_mark w zeroC t (0, 0) i]; exact hv
  refine ⟨⟨hc 0 _ rfl, hc 1 _ rfl, hc 2 _ rfl, hc 3 _ rfl, hc 4 _ rfl, hc 5 _ rfl, hc 6 _ rfl, hc 7 _ rfl, hc 8 _ rfl, hc 9 _ rfl, hc 10 _ rfl⟩, fun i => ?_⟩
  rw [hb.frozen (by simp), World.frozen?_alloc_mark w zeroC t 0 0 i]; simp

set_option maxHeartbeats 4000000 in
theorem fields_any (b off len cap : Nat) (l : List Int) (w : World) (hA : At w b off len cap l) (g : Good l) :
    Calls Try.prog 42 #[.slice (some ⟨b, off, none⟩) len cap, .int .i64 (hdOf l), .int .i64 (w2 l 2)] w fun e w' =>
      ∃ vo vb, e = .returned (ipV (dgOf l) vo vb) ∧ Owns w' w.heap.size vo (dgOf l).opts ∧ Owns w' w.heap.size vb (dgOf l).body ∧ Below w.heap.size w w' := by
  have HL : Hid (l.length = len) := hA.len
  obtain ⟨g1, g2, g3, g4, g5, g6, g7, g8, g9⟩ := g
  rw [HL.out] at g1 g2 g5 g8
  have x6 := w2_bd l hA.bytes 6
  have x12 := w4_bd l hA.bytes 12
  have x16 := w4_bd l hA.bytes 16
  have hc := hA.cap1
  have n14 := bit14 (w2 l 6) x6.1 x6.2
  have n13 := bit13 (w2 l 6) x6.1 x6.2
  have nm := mask13 (w2 l 6) x6.1 x6.2
  have i1 : ¬ hdOf l < 20 := by omega
  have i2 : ¬ (cap : Int) < hdOf l := by omega
  have i3 : ¬ w2 l 2 < hdOf l := by omega
  have i4 : ¬ (cap : Int) < w2 l 2 := by omega
  have u12 : IntKind.u32.wrap (w4 l 12) = w4 l 12 := u32_id _ x12.1 (by omega)
  have u16 : IntKind.u32.wrap (w4 l 16) = w4 l 16 := u32_id _ x16.1 (by omega)
  have i5 : (0 : Int) ≤ hdOf l := by omega
  have i6 : (0 : Int) ≤ w2 l 2 := by omega
  have i7 : w2 l 2 ≤ (cap : Int) := by omega
  have i8 : hdOf l ≤ (cap : Int) := by omega
  have e1 : getV l 1 1 = b1 l 1 := getV1 l 1 (by rw [HL.out]; omega)
  have e4 : getV l 4 2 = w2 l 4 := getV2 l 4 (by rw [HL.out]; omega)
  have e8 : getV l 8 1 = b1 l 8 := getV1 l 8 (by rw [HL.out]; omega)
  have e9 : getV l 9 1 = b1 l 9 := getV1 l 9 (by rw [HL.out]; omega)
  have e12 : getV l 12 4 = w4 l 12 := getV4 l 12 (by rw [HL.out]; omega)
  have e16 : getV l 16 4 = w4 l 16 := getV4 l 16 (by rw [HL.out]; omega)
  obtain ⟨V1, hsl1, ho1⟩ := slice_part b off len cap 20 (hdOf l) 20 (hdOf l).toNat rfl (by omega) (by omega) (by omega)
  obtain ⟨V2, hsl2, ho2⟩ := slice_part b off len cap (hdOf l) (w2 l 2) (hdOf l).toNat (w2 l 2).toNat (by omega) (by omega) (by omega) (by omega)
  clear g9 g3 g7
  go_enter Try.func42, Try.ntmps42
  go_wp2_with fail
  refine (number2 b off len cap l 6 6 _ (hA.later (below_alloc _ _)) rfl (by omega)).mono ?_
  rintro e w0 ⟨rfl, hw0⟩
  have hb0 : Below w.heap.size w w0 := by rw [hw0]; exact below_alloc _ _
  have hn0 : Below (w0.heap.size) w0 w0 := Below.refl _ _
  have HW : Hid (w0 = _) := hw0
  have hA0 := hA.later hb0
  clear hw0 hn0
  go_wp2_with fail
  go_region_held3 (fun w' => True) (first | trivial | go_keep)
    (first
      | (go_at_call 56; refine (number_yes b off len cap l _ _ _ hA0.cap1 hA0.cap2 hA0.len hA0.bytes (by exact hA0.sees) (by decide) (by unfold holdsB; simp; omega)).mono ?_; rintro e w' ⟨rfl, rfl⟩)
      | (go_at_call_of 58 V1; refine (clone_part V1 b off len cap 20 (hdOf l).toNat l _ ho1 (hA0.later (Below.refl _ _).drew) (by omega) (by omega) (by omega)).mono ?_; rintro e w1 ⟨v1, rfl, hv1, hb1'⟩; obtain ⟨a1, m1, k1, rfl⟩ := (hv1.bts (isBytes_part l hA.bytes _ _)).shape; have hb1 : Below w0.heap.size w0 w1 := below_trans (Below.refl _ _).drew hb1')
      | (go_at_call_of 58 V2; refine (clone_part V2 b off len cap (hdOf l).toNat (w2 l 2).toNat l _ ho2 (hA0.later hb1) (by omega) (by omega) (by omega)).mono ?_; rintro e w2' ⟨v2, rfl, hv2, hb2'⟩; obtain ⟨a2, m2, k2, rfl⟩ := (hv2.bts (isBytes_part l hA.bytes _ _)).shape; have hb2 := below_trans hb1 hb2'; obtain ⟨⟨c0, c1, c2, c3, c4, c5, c6, c7, c8, c9, c10⟩, hfz⟩ := zero_cells HW.out hb2))
  have hs0 := hb1.size
  have hsz0 : w0.heap.size = w.heap.size + 1 := by rw [HW.out]; simp
  obtain ⟨W, hW⟩ : ∃ W, W = (((((((((((w2'.setCell ⟨w.heap.size, 0, none⟩ (.int .i64 (b1 l 1))).setCell ⟨w.heap.size, 1, none⟩ (.int .i64 (w2 l 4))).setCell ⟨w.heap.size, 2, none⟩ (.bool (bit (w2 l 6) 16384))).setCell ⟨w.heap.size, 3, none⟩ (.bool (bit (w2 l 6) 8192))).setCell ⟨w.heap.size, 4, none⟩ (.int .i64 (w2 l 6 % 8192))).setCell ⟨w.heap.size, 5, none⟩ (.int .i64 (b1 l 8))).setCell ⟨w.heap.size, 6, none⟩ (.int .i64 (b1 l 9))).setCell ⟨w.heap.size, 7, none⟩ (.int .u32 (w4 l 12))).setCell ⟨w.heap.size, 8, none⟩ (.int .u32 (w4 l 16))).setCell ⟨w.heap.size, 9, none⟩ (.slice a1 m1 k1)).setCell ⟨w.heap.size, 10, none⟩ (.slice a2 m2 k2)) := ⟨_, rfl⟩
  have hlt : w.heap.size < w0.heap.size := by omega
  have hlt' : w.heap.size < w0.drew.heap.size := hlt
  have hlt2 : w.heap.size < w1.heap.size := by omega
  have B1 : Owns W w0.drew.heap.size (.slice a1 m1 k1) ((l.drop 20).take ((hdOf l).toNat - 20)) := by
    rw [hW]
    exact (((((((((((hv1.later hb2').store hlt' _).store hlt' _).store hlt' _).store hlt' _).store hlt' _).store hlt' _).store hlt' _).store hlt' _).store hlt' _).store hlt' _).store hlt' _
  have B2 : Owns W w1.heap.size (.slice a2 m2 k2) ((l.drop (hdOf l).toNat).take ((w2 l 2).toNat - (hdOf l).toNat)) := by
    rw [hW]
    exact (((((((((((hv2).store hlt2 _).store hlt2 _).store hlt2 _).store hlt2 _).store hlt2 _).store hlt2 _).store hlt2 _).store hlt2 _).store hlt2 _).store hlt2 _).store hlt2 _
  have bel : Below w.heap.size w W := by
    rw [hW]
    have hle : w.heap.size ≤ w.heap.size := Nat.le_refl _
    exact ((((((((((((below_trans hb0 hb2).setCell hle _).setCell hle _).setCell hle _).setCell hle _).setCell hle _).setCell hle _).setCell hle _).setCell hle _).setCell hle _).setCell hle _).setCell hle _)
  have r0 : W.cell? ⟨w.heap.size, 0, none⟩ = some (.int .i64 (b1 l 1)) := by rw [hW]; simp [go_sem, c0]
  have r1 : W.cell? ⟨w.heap.size, 1, none⟩ = some (.int .i64 (w2 l 4)) := by rw [hW]; simp [go_sem, c1]
  have r2 : W.cell? ⟨w.heap.size, 2, none⟩ = some (.bool (bit (w2 l 6) 16384)) := by rw [hW]; simp [go_sem, c2]
  have r3 : W.cell? ⟨w.heap.size, 3, none⟩ = some (.bool (bit (w2 l 6) 8192)) := by rw [hW]; simp [go_sem, c3]
  have r4 : W.cell? ⟨w.heap.size, 4, none⟩ = some (.int .i64 (w2 l 6 % 8192)) := by rw [hW]; simp [go_sem, c4]
  have r5 : W.cell? ⟨w.heap.size, 5, none⟩ = some (.int .i64 (b1 l 8)) := by rw [hW]; simp [go_sem, c5]
  have r6 : W.cell? ⟨w.heap.size, 6, none⟩ = some (.int .i64 (b1 l 9)) := by rw [hW]; simp [go_sem, c6]
  have r7 : W.cell? ⟨w.heap.size, 7, none⟩ = some (.int .u32 (w4 l 12)) := by rw [hW]; simp [go_sem, c7]
  have r8 : W.cell? ⟨w.heap.size, 8, none⟩ = some (.int .u32 (w4 l 16)) := by rw [hW]; simp [go_sem, c8]
  have r9 : W.cell? ⟨w.heap.size, 9, none⟩ = some (.slice a1 m1 k1) := by rw [hW]; simp [go_sem, c9]
  have r10 : W.cell? ⟨w.heap.size, 10, none⟩ = some (.slice a2 m2 k2) := by rw [hW]; simp [go_sem, c10]
  rw [← hW]
  clear hW c0 c1 c2 c3 c4 c5 c6 c7 c8 c9 c10 hfz hv1 hv2 hb1 hb2 hb1' hb2' hb0 hA hA0 hsl1 hsl2 ho1 ho2
  go_wp2
  refine bodyPost_ret (v := ipV (dgOf l) (.slice a1 m1 k1) (.slice a2 m2 k2)) ?_ rfl ?_
  · simp [results, Try.results42, go_sem, r0, r1, r2, r3, r4, r5, r6, r7, r8, r9, r10, dgOf]
  exact ⟨_, _, rfl, B1.low (Nat.le_of_lt hlt'), B2.low (Nat.le_of_lt hlt2), bel⟩
end Go.Proofs.Ytdejjokgchbgnaa

namespace Go.Proofs.Ytdejjokgchbgnaa
open Go.RowKit

theorem frame_p (a b : Value) : (#[a, b] ++ Array.replicate (Try.f40.ntmps - #[a, b].size) undef : Array Value) = #[a, b, undef, undef, undef, undef, undef, undef, undef] := by rw [Try.ntmps40]; rfl

set_option maxHeartbeats 2000000 in
theorem pcatch_panicking (b b' base : Nat) (x z : Int) (w : World) (c0 : w.cell? ⟨b, 0, none⟩ = some (.int .i64 0)) (c1 : w.cell? ⟨b, 1, none⟩ = some (.int .i64 0)) (c2 : w.cell? ⟨b, 2, none⟩ = some (.bool false)) (c3 : w.cell? ⟨b, 3, none⟩ = some (.bool false)) (c4 : w.cell? ⟨b, 4, none⟩ = some (.int .i64 0)) (c5 : w.cell? ⟨b, 5, none⟩ = some (.int .i64 0)) (c6 : w.cell? ⟨b, 6, none⟩ = some (.int .i64 0)) (c7 : w.cell? ⟨b, 7, none⟩ = some (.int .u32 0)) (c8 : w.cell? ⟨b, 8, none⟩ = some (.int .u32 0)) (c9 : w.cell? ⟨b, 9, none⟩ = some (.slice none 0 0)) (c10 : w.cell? ⟨b, 10, none⟩ = some (.slice none 0 0)) (hz : ∀ i, w.frozen? ⟨b, i, none⟩ = false) (hc' : w.cell? ⟨b', 0, none⟩ = some (.int .i64 z)) (hz' : w.frozen? ⟨b', 0, none⟩ = false) (hpq : ¬ b = b') (h1 : base ≤ b) (h2 : base ≤ b') :
    CallsD Try.prog 40 #[.pointer (some ⟨b, 0, none⟩), .pointer (some ⟨b', 0, none⟩)] (.panicking (chainOf x)) w fun e u' w' =>
      e = .returned (.tuple #[]) ∧ u' = .panicking [{ v := .iface 58 (.int .i64 x), recovered := true }] ∧ (w'.cell? ⟨b, 0, none⟩ = some (.int .i64 0) ∧ w'.cell? ⟨b, 1, none⟩ = some (.int .i64 0) ∧ w'.cell? ⟨b, 2, none⟩ = some (.bool false) ∧ w'.cell? ⟨b, 3, none⟩ = some (.bool false) ∧ w'.cell? ⟨b, 4, none⟩ = some (.int .i64 0) ∧ w'.cell? ⟨b, 5, none⟩ = some (.int .i64 0) ∧ w'.cell? ⟨b, 6, none⟩ = some (.int .i64 0) ∧ w'.cell? ⟨b, 7, none⟩ = some (.int .u32 0) ∧ w'.cell? ⟨b, 8, none⟩ = some (.int .u32 0) ∧ w'.cell? ⟨b, 9, none⟩ = some (.slice none 0 0) ∧ w'.cell? ⟨b, 10, none⟩ = some (.slice none 0 0)) ∧ w'.cell? ⟨b', 0, none⟩ = some (.int .i64 x) ∧ Below base w w' := by
  have ha := assert_errno
  have hpq' : ¬ b' = b := fun e => hpq e.symm
  refine callsD_of_wpS Try.func40 rfl fun c₀ cs hu => ?_
  rw [frame_p]
  apply wpS_seq
  apply wpS_region
  simp [wpOpsS, go_sem, recoverD, hu, chainOf, Exit.thenS]
  refine wpS_of_wp ?_
  go_wp2
  go_region
  have bel : Below base w ((((((((((((w.setCell ⟨b, 0, none⟩ (.int .i64 0)).setCell ⟨b, 1, none⟩ (.int .i64 0)).setCell ⟨b, 2, none⟩ (.bool false)).setCell ⟨b, 3, none⟩ (.bool false)).setCell ⟨b, 4, none⟩ (.int .i64 0)).setCell ⟨b, 5, none⟩ (.int .i64 0)).setCell ⟨b, 6, none⟩ (.int .i64 0)).setCell ⟨b, 7, none⟩ (.int .u32 0)).setCell ⟨b, 8, none⟩ (.int .u32 0)).setCell ⟨b, 9, none⟩ (.slice none 0 0)).setCell ⟨b, 10, none⟩ (.slice none 0 0)).setCell ⟨b', 0, none⟩ (.int .i64 x)).drew := below_drewN (((((((((((((Below.refl base w).setCell h1 _).setCell h1 _).setCell h1 _).setCell h1 _).setCell h1 _).setCell h1 _).setCell h1 _).setCell h1 _).setCell h1 _).setCell h1 _).setCell h1 _).setCell h2 _) 1
  show bodyPostS _ _ _ _ _ _ _ _ _
  simp [bodyPostS, results, Try.results40, go_sem, c0, c1, c2, c3, c4, c5, c6, c7, c8, c9, c10, hc', bel]

theorem pcatch_idle (p q : Addr) (w : World) :
    CallsD Try.prog 40 #[.pointer (some p), .pointer (some q)] .returning w fun e u' w' => e = .returned (.tuple #[]) ∧ u' = .returning ∧ w' = w := by
  refine callsD_of_wpS Try.func40 rfl fun c₀ cs hu => ?_
  rw [frame_p]
  apply wpS_seq
  apply wpS_region
  simp [wpOpsS, go_sem, recoverD, hu, Exit.thenS]
  refine wpS_of_wp ?_
  go_wp2
  cases c₀
  simp_all [bodyPostS, results, Try.results40]

set_option maxHeartbeats 4000000 in
theorem parse_no (a : Option Addr) (b off len cap : Nat) (l : List Int) (w : World) (ha : a = some ⟨b, off, none⟩ ∨ l = []) (hA : At w b off len cap l) (h : ¬ parseE l = 0) :
    Calls Try.prog 26 #[.slice a len cap] w fun e w' => e = .returned (.tuple #[ipV Dg.zero (.slice none 0 0) (.slice none 0 0), .int .i64 (parseE l)]) ∧ Below w.heap.size w w' := by
  have hmf : ∀ (fn : Fn) (first cap : Array Value) (w : World), (Instr.makeFunc fn first cap).run Try.prog w = .ok (.func fn first cap) w := fun _ _ _ _ => rfl
  go_enter_defers Try.func26, Try.ntmps26
  go_wp2_with fail
  refine (measured_no a b off len cap l _ ha (hA.later (below_trans (below_alloc _ _) (below_alloc _ _))) h).mono ?_
  rintro e w1 ⟨rfl, hb1⟩
  go_wp2_with fail
  obtain ⟨q1, q2, q3, q4⟩ := two_cells hb1
  have hbase : Below w.heap.size w w1 := below_trans (below_trans (below_alloc _ _) (below_alloc _ _)) hb1
  refine leaves_cons (f := 40) (args := #[.pointer (some ⟨w.heap.size, 0, none⟩), .pointer (some ⟨w.heap.size + 1, 0, none⟩)]) (by simp) (by simp [go_sem]) ?_
  refine (pcatch_panicking w.heap.size (w.heap.size + 1) w.heap.size (parseE l) 0 _ (q1 0 _ rfl) (q1 1 _ rfl) (q1 2 _ rfl) (q1 3 _ rfl) (q1 4 _ rfl) (q1 5 _ rfl) (q1 6 _ rfl) (q1 7 _ rfl) (q1 8 _ rfl) (q1 9 _ rfl) (q1 10 _ rfl) q2 (q3 0 _ rfl) (q4 0) (by omega) (by omega) (by omega)).mono ?_
  rintro e u' w2 ⟨rfl, rfl, ⟨d0, d1, d2, d3, d4, d5, d6, d7, d8, d9, d10⟩, d11, hb2⟩
  simp [Leaves, settle, results, Try.results26, go_sem, d0, d1, d2, d3, d4, d5, d6, d7, d8, d9, d10, d11, Dg.zero]
  exact hbase.trans hb2

set_option maxHeartbeats 8000000 in
theorem parse_own (b off len cap : Nat) (l : List Int) (w : World) (hA : At w b off len cap l) (g : Good l) :
    Calls Try.prog 26 #[.slice (some ⟨b, off, none⟩) len cap] w fun e w' =>
      ∃ a1 k1 a2 k2, e = .returned (.tuple #[ipV (dgOf l) (.slice a1 (dgOf l).opts.length k1) (.slice a2 (dgOf l).body.length k2), .int .i64 0]) ∧ Owns w' w.heap.size (.slice a1 (dgOf l).opts.length k1) (dgOf l).opts ∧ Owns w' w.heap.size (.slice a2 (dgOf l).body.length k2) (dgOf l).body ∧ Below w.heap.size w w' := by
  have hmf : ∀ (fn : Fn) (first cap : Array Value) (w : World), (Instr.makeFunc fn first cap).run Try.prog w = .ok (.func fn first cap) w := fun _ _ _ _ => rfl
  go_enter_defers Try.func26, Try.ntmps26
  go_wp2_with fail
  refine (measured_ok b off len cap l _ (hA.later (below_trans (below_alloc _ _) (below_alloc _ _))) g).mono ?_
  rintro e w1 ⟨rfl, hb1⟩
  have hbase : Below w.heap.size w w1 := below_trans (below_trans (below_alloc _ _) (below_alloc _ _)) hb1
  have hsz := hb1.size
  simp only [World.size_alloc] at hsz
  go_wp2_with fail
  refine (fields_any b off len cap l _ (hA.later hbase) g).mono ?_
  rintro e w2 ⟨vo, vb, rfl, hvo, hvb, hb2⟩
  obtain ⟨q1, q2, q3, q4⟩ := two_cells (below_trans hb1 hb2)
  have c0 : w2.cell? ⟨w.heap.size, 0, none⟩ = some (.int .i64 0) := q1 0 _ rfl
  have c1 : w2.cell? ⟨w.heap.size, 1, none⟩ = some (.int .i64 0) := q1 1 _ rfl
  have c2 : w2.cell? ⟨w.heap.size, 2, none⟩ = some (.bool false) := q1 2 _ rfl
  have c3 : w2.cell? ⟨w.heap.size, 3, none⟩ = some (.bool false) := q1 3 _ rfl
  have c4 : w2.cell? ⟨w.heap.size, 4, none⟩ = some (.int .i64 0) := q1 4 _ rfl
  have c5 : w2.cell? ⟨w.heap.size, 5, none⟩ = some (.int .i64 0) := q1 5 _ rfl
  have c6 : w2.cell? ⟨w.heap.size, 6, none⟩ = some (.int .i64 0) := q1 6 _ rfl
  have c7 : w2.cell? ⟨w.heap.size, 7, none⟩ = some (.int .u32 0) := q1 7 _ rfl
  have c8 : w2.cell? ⟨w.heap.size, 8, none⟩ = some (.int .u32 0) := q1 8 _ rfl
  have c9 : w2.cell? ⟨w.heap.size, 9, none⟩ = some (.slice none 0 0) := q1 9 _ rfl
  have c10 : w2.cell? ⟨w.heap.size, 10, none⟩ = some (.slice none 0 0) := q1 10 _ rfl
  have c11 : w2.cell? ⟨w.heap.size + 1, 0, none⟩ = some (.int .i64 0) := q3 0 _ rfl
  have c12 := q4 0
  clear q1 q3 q4
  have hn1 : ¬ (w.heap.size = w.heap.size + 1) := by omega
  have hn2 : ¬ (w.heap.size + 1 = w.heap.size) := by omega
  obtain ⟨a1, k1, hv1e⟩ : ∃ a1 k1, vo = .slice a1 (dgOf l).opts.length k1 := by obtain ⟨a1, k1, _, _, h, _⟩ := hvo.bts (isBytes_part l hA.bytes _ _); exact ⟨a1, k1, h⟩
  obtain ⟨a2, k2, hv2e⟩ : ∃ a2 k2, vb = .slice a2 (dgOf l).body.length k2 := by obtain ⟨a1, k1, _, _, h, _⟩ := hvb.bts (isBytes_part l hA.bytes _ _); exact ⟨a1, k1, h⟩
  subst hv1e hv2e
  go_wp2_with fail
  obtain ⟨W, hW⟩ : ∃ W, W = ((((((((((((w2.setCell ⟨w.heap.size, 0, none⟩ (.int .i64 (dgOf l).tos)).setCell ⟨w.heap.size, 1, none⟩ (.int .i64 (dgOf l).id)).setCell ⟨w.heap.size, 2, none⟩ (.bool (dgOf l).df)).setCell ⟨w.heap.size, 3, none⟩ (.bool (dgOf l).mf)).setCell ⟨w.heap.size, 4, none⟩ (.int .i64 (dgOf l).off)).setCell ⟨w.heap.size, 5, none⟩ (.int .i64 (dgOf l).ttl)).setCell ⟨w.heap.size, 6, none⟩ (.int .i64 (dgOf l).proto)).setCell ⟨w.heap.size, 7, none⟩ (.int .u32 (dgOf l).src)).setCell ⟨w.heap.size, 8, none⟩ (.int .u32 (dgOf l).dst)).setCell ⟨w.heap.size, 9, none⟩ (.slice a1 (dgOf l).opts.length k1)).setCell ⟨w.heap.size, 10, none⟩ (.slice a2 (dgOf l).body.length k2)).setCell ⟨w.heap.size + 1, 0, none⟩ (.int .i64 0)) := ⟨_, rfl⟩
  have hlt : w.heap.size < w1.heap.size := by omega
  have hlt2 : w.heap.size + 1 < w1.heap.size := by omega
  have B1 : Owns W w1.heap.size (.slice a1 (dgOf l).opts.length k1) (dgOf l).opts := by
    rw [hW]; exact ((((((((((((hvo.store hlt _).store hlt _).store hlt _).store hlt _).store hlt _).store hlt _).store hlt _).store hlt _).store hlt _).store hlt _).store hlt _).store hlt2 _)
  have B2 : Owns W w1.heap.size (.slice a2 (dgOf l).body.length k2) (dgOf l).body := by
    rw [hW]; exact ((((((((((((hvb.store hlt _).store hlt _).store hlt _).store hlt _).store hlt _).store hlt _).store hlt _).store hlt _).store hlt _).store hlt _).store hlt _).store hlt2 _)
  have bel : Below w.heap.size w W := by
    rw [hW]
    have hle : w.heap.size ≤ w.heap.size := Nat.le_refl _
    have hle1 : w.heap.size ≤ w.heap.size + 1 := by omega
    exact (((((((((((((below_trans hbase hb2).setCell hle _).setCell hle _).setCell hle _).setCell hle _).setCell hle _).setCell hle _).setCell hle _).setCell hle _).setCell hle _).setCell hle _).setCell hle _).setCell hle1 _)
  have r0 : W.cell? ⟨w.heap.size, 0, none⟩ = some (.int .i64 (dgOf l).tos) := by rw [hW]; simp [go_sem, c0]
  have r1 : W.cell? ⟨w.heap.size, 1, none⟩ = some (.int .i64 (dgOf l).id) := by rw [hW]; simp [go_sem, c1]
  have r2 : W.cell? ⟨w.heap.size, 2, none⟩ = some (.bool (dgOf l).df) := by rw [hW]; simp [go_sem, c2]
  have r3 : W.cell? ⟨w.heap.size, 3, none⟩ = some (.bool (dgOf l).mf) := by rw [hW]; simp [go_sem, c3]
  have r4 : W.cell? ⟨w.heap.size, 4, none⟩ = some (.int .i64 (dgOf l).off) := by rw [hW]; simp [go_sem, c4]
  have r5 : W.cell? ⟨w.heap.size, 5, none⟩ = some (.int .i64 (dgOf l).ttl) := by rw [hW]; simp [go_sem, c5]
  have r6 : W.cell? ⟨w.heap.size, 6, none⟩ = some (.int .i64 (dgOf l).proto) := by rw [hW]; simp [go_sem, c6]
  have r7 : W.cell? ⟨w.heap.size, 7, none⟩ = some (.int .u32 (dgOf l).src) := by rw [hW]; simp [go_sem, c7]
  have r8 : W.cell? ⟨w.heap.size, 8, none⟩ = some (.int .u32 (dgOf l).dst) := by rw [hW]; simp [go_sem, c8]
  have r9 : W.cell? ⟨w.heap.size, 9, none⟩ = some (.slice a1 (dgOf l).opts.length k1) := by rw [hW]; simp [go_sem, c9]
  have r10 : W.cell? ⟨w.heap.size, 10, none⟩ = some (.slice a2 (dgOf l).body.length k2) := by rw [hW]; simp [go_sem, c10]
  have r11 : W.cell? ⟨w.heap.size + 1, 0, none⟩ = some (.int .i64 0) := by rw [hW]; simp [go_sem, c11]
  rw [← hW]
  have HBL : Hid (isBytes l) := hA.bytes
  clear hW c0 c1 c2 c3 c4 c5 c6 c7 c8 c9 c10 c11 c12 q2 hvo hvb hb1 hb2 hbase hA hn1 hn2
  refine leaves_cons (f := 40) (args := #[.pointer (some ⟨w.heap.size, 0, none⟩), .pointer (some ⟨w.heap.size + 1, 0, none⟩)]) (by simp) (by simp [go_sem]) ?_
  refine (pcatch_idle _ _ _).mono ?_
  rintro e u' w5 ⟨rfl, rfl, rfl⟩
  simp [Leaves, settle, results, Try.results26, go_sem, r0, r1, r2, r3, r4, r5, r6, r7, r8, r9, r10, r11]
  exact ⟨a1, k1, a2, k2, ⟨⟨rfl, rfl⟩, rfl, rfl⟩, B1.low (Nat.le_of_lt hlt), B2.low (Nat.le_of_lt hlt), bel⟩

theorem parse_ok (b off len cap : Nat) (l : List Int) (w : World) (hA : At w b off len cap l) (g : Good l) :
    Calls Try.prog 26 #[.slice (some ⟨b, off, none⟩) len cap] w fun e w' =>
      ∃ a1 k1 a2 k2, e = .returned (.tuple #[ipV (dgOf l) (.slice a1 (dgOf l).opts.length k1) (.slice a2 (dgOf l).body.length k2), .int .i64 0]) ∧ Bts w' (.slice a1 (dgOf l).opts.length k1) (dgOf l).opts ∧ Bts w' (.slice a2 (dgOf l).body.length k2) (dgOf l).body ∧ Below w.heap.size w w' := by
  refine (parse_own b off len cap l w hA g).mono ?_
  rintro e w' ⟨a1, k1, a2, k2, rfl, h1, h2, hb⟩
  exact ⟨a1, k1, a2, k2, rfl, h1.bts (isBytes_part l hA.bytes _ _), h2.bts (isBytes_part l hA.bytes _ _), hb⟩
end Go.Proofs.Ytdejjokgchbgnaa

namespace Go.Proofs.Ytdejjokgchbgnaa
open Go.RowKit
attribute [local go_sem ↓] Go.wp_at_zero Go.wp_at_succ

theorem uslice_upto (b off len cap q : Nat) (hq : q ≤ cap) (W : World) :
    (Instr.slice 112 (.slice (some ⟨b, off, none⟩) len cap) none (some (.int .i64 (q : Int))) none).run Try.prog W = .ok (.slice (some ⟨b, off, none⟩) q cap) W := by
  have ht' : Try.prog.underlying 112 = some (.slice (Try.prog.elem 112)) := by simp [Program.elem, Try.underlying112]
  have he : Try.prog.elem 112 = 5 := by simp [Program.elem, Try.underlying112]
  rw [run_slice_h W 112 _ _ _ ht' .i64 _ (by omega) (by omega), he, Try.sizeOf5]
  by_cases hc : cap = 0
  · simp [Result.andThen, sliced, hc]
  · simp [Result.andThen, sliced, hc, add_at]

theorem bts_take {w : World} {b off len cap : Nat} {l : List Int} (hA : At w b off len cap l) (q : Nat) (hq : q ≤ len) : Bts w (.slice (some ⟨b, off, none⟩) q cap) (l.take q) := by
  have hlen : (l.take q).length = q := by rw [List.length_take, hA.len]; omega
  have c1 := hA.cap1
  refine ⟨_, cap, b, off, by rw [hlen], by omega, hA.cap2, isBytes_take hA.bytes q, .inl rfl, ?_⟩
  intro i hi
  rw [hlen] at hi
  have : (l.take q).getD i 0 = l.getD i 0 := by simp [List.getD, hi]
  rw [this]
  exact hA.sees i (by rw [hA.len]; omega)

theorem umeas_short (s d : Int) (a : Option Addr) (len cap : Nat) (w : World) (h : len < 8) :
    Calls Try.prog 68 #[.int .u32 s, .int .u32 d, .slice a len cap] w fun e w' => e = .returned (.tuple #[.int .i64 0, .int .i64 2]) ∧ Below w.heap.size w w' := by
  have h' : (len : Int) < 8 := by omega
  go_enter Try.func68, Try.ntmps68
  go_wp2
  go_ret2
  exact ⟨rfl, Below.refl _ _⟩

set_option maxHeartbeats 1000000 in
theorem umeas_form (s d : Int) (b off len cap : Nat) (l : List Int) (w : World) (hA : At w b off len cap l) (g1 : 8 ≤ len) (h : w2 l 4 < 8) :
    Calls Try.prog 68 #[.int .u32 s, .int .u32 d, .slice (some ⟨b, off, none⟩) len cap] w fun e w' => e = .returned (.tuple #[.int .i64 0, .int .i64 4]) ∧ Below w.heap.size w w' := by
  have h' : ¬ (len : Int) < 8 := by omega
  go_enter Try.func68, Try.ntmps68
  go_wp2_with fail
  refine (uword_any b off len cap l 4 4 _ hA rfl (by omega)).mono ?_
  rintro e w' ⟨rfl, rfl⟩
  go_wp2
  go_ret2
  exact ⟨rfl, Below.refl _ _⟩

set_option maxHeartbeats 1000000 in
theorem umeas_long (s d : Int) (b off len cap : Nat) (l : List Int) (w : World) (hA : At w b off len cap l) (g1 : 8 ≤ len) (g2 : 8 ≤ w2 l 4) (h : (len : Int) < w2 l 4) :
    Calls Try.prog 68 #[.int .u32 s, .int .u32 d, .slice (some ⟨b, off, none⟩) len cap] w fun e w' => e = .returned (.tuple #[.int .i64 0, .int .i64 2]) ∧ Below w.heap.size w w' := by
  have h' : ¬ (len : Int) < 8 := by omega
  have g2' : ¬ w2 l 4 < 8 := by omega
  go_enter Try.func68, Try.ntmps68
  go_wp2_with fail
  refine (uword_any b off len cap l 4 4 _ hA rfl (by omega)).mono ?_
  rintro e w' ⟨rfl, rfl⟩
  go_wp2
  go_ret2
  exact ⟨rfl, Below.refl _ _⟩

theorem At.quiet {w : World} {b off len cap : Nat} {l : List Int} (h : At w b off len cap l) (n : Nat) : At (w.drewN n) b off len cap l := h.later (below_drewN (Below.refl _ _) n)

theorem uword_zero (b off len cap : Nat) (l : List Int) (q : Int) (k : Nat) (w : World) (hA : At w b off len cap l) (hq : q = (k : Int)) (hk : k + 2 ≤ len) (h0 : w2 l k = 0) :
    Calls Try.prog 69 #[.slice (some ⟨b, off, none⟩) len cap, .int .i64 q] w fun e w' => e = .returned (.int .i64 0) ∧ ∃ m, w' = w.drewN m := by
  refine (uword_any b off len cap l q k w hA hq hk).mono ?_
  rintro e w' ⟨rfl, rfl⟩
  exact ⟨by rw [h0], 0, rfl⟩

set_option maxHeartbeats 2000000 in
theorem umeas_bare (s d : Int) (b off len cap : Nat) (l : List Int) (w : World) (hA : At w b off len cap l) (g1 : 8 ≤ len) (g2 : 8 ≤ w2 l 4) (g3 : w2 l 4 ≤ len) (g4 : w2 l 6 = 0) :
    Calls Try.prog 68 #[.int .u32 s, .int .u32 d, .slice (some ⟨b, off, none⟩) len cap] w fun e w' => e = .returned (.tuple #[.int .i64 (w2 l 4), .int .i64 0]) ∧ Below w.heap.size w w' := by
  have h' : ¬ (len : Int) < 8 := by omega
  have g2' : ¬ w2 l 4 < 8 := by omega
  have g3' : ¬ (len : Int) < w2 l 4 := by omega
  go_enter Try.func68, Try.ntmps68
  go_wp2_with fail
  refine (uword_any b off len cap l 4 4 _ hA rfl (by omega)).mono ?_
  rintro e w' ⟨rfl, rfl⟩
  go_wp2_with fail
  go_quiet ((go_at_call 69; refine Calls.quiet_of (uword_zero b off len cap l 6 6 _ (At.quiet hA _) rfl (by omega) g4)))
  go_wp2
  go_ret2
  exact ⟨rfl, below_drewN (Below.refl _ _) _⟩

set_option maxHeartbeats 4000000 in
theorem umeas_sum (s d : Int) (b off len cap q : Nat) (l : List Int) (w : World) (s0 : 0 ≤ s) (s1 : s < 4294967296) (t0 : 0 ≤ d) (t1 : d < 4294967296) (hA : At w b off len cap l) (hq : w2 l 4 = (q : Int)) (hl : len ≤ 70000) (g1 : 8 ≤ len) (g2 : 8 ≤ q) (g3 : q ≤ len) (g4 : w2 l 6 ≠ 0) (h : fold16 (ws (pseudoB s d 17 q ++ l.take q)) ≠ 65535) :
    Calls Try.prog 68 #[.int .u32 s, .int .u32 d, .slice (some ⟨b, off, none⟩) len cap] w fun e w' => e = .returned (.tuple #[.int .i64 0, .int .i64 5]) ∧ Below w.heap.size w w' := by
  have h' : ¬ (len : Int) < 8 := by omega
  have g2' : ¬ (q : Int) < 8 := by omega
  have g3' : ¬ (len : Int) < (q : Int) := by omega
  have hc := hA.cap1
  have hsl := uslice_upto b off len cap q (by omega)
  have HQ : Hid (w2 l 4 = (q : Int)) := hq
  have hne : (w2 l 6 != 0) = true := by rw [bne_iff_ne]; exact g4
  have hs : (fold16 (ws (pseudoB s d 17 q ++ l.take q)) != 65535) = true := by rw [bne_iff_ne]; exact h
  have HTL : Hid ((l.take q).length = q) := by show _ = _; rw [List.length_take, hA.len]; omega
  clear hq g4 h
  go_enter Try.func68, Try.ntmps68
  go_wp2_with fail
  refine (uword_any b off len cap l 4 4 _ hA rfl (by omega)).mono ?_
  rintro e w1 ⟨rfl, hw1⟩
  have hw1 := hw1.symm
  subst hw1
  rw [HQ.out]
  go_wp2_with fail
  go_region_held3 (fun w' => True) (first | trivial | go_keep)
    (first
      | (go_at_call 69; refine (uword_any b off len cap l 6 6 _ (hA.later (Below.refl _ _).drew) rfl (by omega)).mono ?_; rintro e w2' ⟨rfl, hw2⟩; have hw2 := hw2.symm; subst hw2)
      | (go_at_call 74; refine (pseudo_any s d 17 (q : Int) _ s0 s1 t0 t1).mono ?_; rintro e w4 ⟨G4, rfl, hP, hb4'⟩; have hb4 : Below w.heap.size w w4 := below_trans (below_drewN (Below.refl _ _) 1) hb4')
      | (go_at_call 57; refine (sum2 w4 _ _ _ _ _ 23 rfl hP (bts_take (hA.later hb4) q g3) (by rw [pseudo_length, HTL.out]; omega)).mono ?_; rintro e w5 ⟨rfl, rfl⟩))
  go_wp2
  go_ret2
  exact ⟨rfl, below_trans hb4 (below_alloc _ _)⟩

set_option maxHeartbeats 4000000 in
theorem umeas_ok (s d : Int) (b off len cap q : Nat) (l : List Int) (w : World) (s0 : 0 ≤ s) (s1 : s < 4294967296) (t0 : 0 ≤ d) (t1 : d < 4294967296) (hA : At w b off len cap l) (hq : w2 l 4 = (q : Int)) (hl : len ≤ 70000) (g1 : 8 ≤ len) (g2 : 8 ≤ q) (g3 : q ≤ len) (g4 : w2 l 6 ≠ 0) (h : fold16 (ws (pseudoB s d 17 q ++ l.take q)) = 65535) :
    Calls Try.prog 68 #[.int .u32 s, .int .u32 d, .slice (some ⟨b, off, none⟩) len cap] w fun e w' => e = .returned (.tuple #[.int .i64 (q : Int), .int .i64 0]) ∧ Below w.heap.size w w' := by
  have h' : ¬ (len : Int) < 8 := by omega
  have g2' : ¬ (q : Int) < 8 := by omega
  have g3' : ¬ (len : Int) < (q : Int) := by omega
  have hc := hA.cap1
  have hsl := uslice_upto b off len cap q (by omega)
  have HQ : Hid (w2 l 4 = (q : Int)) := hq
  have hne : (w2 l 6 != 0) = true := by rw [bne_iff_ne]; exact g4
  have hs : (fold16 (ws (pseudoB s d 17 q ++ l.take q)) != 65535) = false := by rw [h]; rfl
  have HTL : Hid ((l.take q).length = q) := by show _ = _; rw [List.length_take, hA.len]; omega
  clear hq g4 h
  go_enter Try.func68, Try.ntmps68
  go_wp2_with fail
  refine (uword_any b off len cap l 4 4 _ hA rfl (by omega)).mono ?_
  rintro e w1 ⟨rfl, hw1⟩
  have hw1 := hw1.symm
  subst hw1
  rw [HQ.out]
  go_wp2_with fail
  go_region_held3 (fun w' => True) (first | trivial | go_keep)
    (first
      | (go_at_call 69; refine (uword_any b off len cap l 6 6 _ (hA.later (Below.refl _ _).drew) rfl (by omega)).mono ?_; rintro e w2' ⟨rfl, hw2⟩; have hw2 := hw2.symm; subst hw2)
      | (go_at_call 74; refine (pseudo_any s d 17 (q : Int) _ s0 s1 t0 t1).mono ?_; rintro e w4 ⟨G4, rfl, hP, hb4'⟩; have hb4 : Below w.heap.size w w4 := below_trans (below_drewN (Below.refl _ _) 1) hb4')
      | (go_at_call 57; refine (sum2 w4 _ _ _ _ _ 23 rfl hP (bts_take (hA.later hb4) q g3) (by rw [pseudo_length, HTL.out]; omega)).mono ?_; rintro e w5 ⟨rfl, rfl⟩))
  go_wp2
  go_ret2
  exact ⟨rfl, below_trans hb4 (below_alloc _ _)⟩

theorem umeas_no (s d : Int) (a : Option Addr) (b off len cap : Nat) (l : List Int) (w : World) (s0 : 0 ≤ s) (s1 : s < 4294967296) (t0 : 0 ≤ d) (t1 : d < 4294967296) (ha : a = some ⟨b, off, none⟩ ∨ l = []) (hA : At w b off len cap l) (hl : len ≤ 70000) (h : ¬ parseU s d l = 0) :
    Calls Try.prog 68 #[.int .u32 s, .int .u32 d, .slice a len cap] w fun e w' => e = .returned (.tuple #[.int .i64 0, .int .i64 (parseU s d l)]) ∧ Below w.heap.size w w' := by
  have hL := hA.len
  obtain ⟨E, hE⟩ : ∃ E, parseU s d l = E := ⟨_, rfl⟩
  rw [hE] at h ⊢
  unfold parseU at hE
  by_cases g1 : l.length < 8
  · rw [if_pos g1] at hE; subst hE; exact umeas_short s d a len cap w (by omega)
  rw [if_neg g1] at hE
  rcases ha with rfl | rfl
  case inr => simp at g1
  by_cases g2 : w2 l 4 < 8
  · rw [if_pos g2] at hE; subst hE; exact umeas_form s d b off len cap l w hA (by omega) g2
  rw [if_neg g2] at hE
  by_cases g3 : (l.length : Int) < w2 l 4
  · rw [if_pos g3] at hE; subst hE; exact umeas_long s d b off len cap l w hA (by omega) (by omega) (by omega)
  rw [if_neg g3] at hE
  obtain ⟨q, hq⟩ := Int.eq_ofNat_of_zero_le (show 0 ≤ w2 l 4 by omega)
  rw [hq, Int.toNat_natCast] at hE
  by_cases g4 : w2 l 6 ≠ 0 ∧ fold16 (ws (pseudoB s d 17 (q : Int) ++ l.take q)) ≠ 65535
  · rw [if_pos g4] at hE; subst hE; exact umeas_sum s d b off len cap q l w s0 s1 t0 t1 hA hq hl (by omega) (by omega) (by omega) g4.1 g4.2
  rw [if_neg g4] at hE
  exact absurd hE.symm h

theorem umeas_yes (s d : Int) (b off len cap : Nat) (l : List Int) (w : World) (s0 : 0 ≤ s) (s1 : s < 4294967296) (t0 : 0 ≤ d) (t1 : d < 4294967296) (hA : At w b off len cap l) (hl : len ≤ 70000) (g : UGood s d l) :
    Calls Try.prog 68 #[.int .u32 s, .int .u32 d, .slice (some ⟨b, off, none⟩) len cap] w fun e w' => e = .returned (.tuple #[.int .i64 (w2 l 4), .int .i64 0]) ∧ Below w.heap.size w w' := by
  have hL := hA.len
  obtain ⟨g1, g2, g3, g4⟩ := g
  by_cases h6 : w2 l 6 = 0
  · exact umeas_bare s d b off len cap l w hA (by omega) g2 (by omega) h6
  rcases g4 with g4 | g4
  · exact absurd g4 h6
  obtain ⟨q, hq⟩ := Int.eq_ofNat_of_zero_le (show 0 ≤ w2 l 4 by omega)
  rw [hq, Int.toNat_natCast] at g4
  rw [hq] at g2 g3 ⊢
  exact umeas_ok s d b off len cap q l w s0 s1 t0 t1 hA hq hl (by omega) (by omega) (by omega) h6 g4

theorem Bts.shapeL {w : World} {v : Value} {l : List Int} (h : Bts w v l) : ∃ a c, v = .slice a l.length c := by
  obtain ⟨a, c, _, _, rfl, _⟩ := h; exact ⟨_, _, rfl⟩

@[reducible] def zeroUC : Array Value := #[.int .i64 0, .int .i64 0, .bool false, .slice none 0 0]

theorem zeroU_cells {w w0 w' : World} {t : TypeId} (h : w0 = w.alloc (.cells zeroUC t)) (hb : Below w0.heap.size w0 w') :
    (w'.cell? ⟨w.heap.size, 0, none⟩ = some (.int .i64 0) ∧ w'.cell? ⟨w.heap.size, 1, none⟩ = some (.int .i64 0) ∧ w'.cell? ⟨w.heap.size, 2, none⟩ = some (.bool false) ∧ w'.cell? ⟨w.heap.size, 3, none⟩ = some (.slice none 0 0)) ∧ ∀ i, w'.frozen? ⟨w.heap.size, i, none⟩ = false := by
  subst h
  have hc : ∀ i v, zeroUC[i]? = some v → w'.cell? ⟨w.heap.size, i, none⟩ = some v := by
    intro i v hv
    refine cell_later hb ?_
    rw [World.cell?_alloc_mark w zeroUC t (0, 0) i]; exact hv
  refine ⟨⟨hc 0 _ rfl, hc 1 _ rfl, hc 2 _ rfl, hc 3 _ rfl⟩, fun i => ?_⟩
  rw [hb.frozen (by simp), World.frozen?_alloc_mark w zeroUC t 0 0 i]; simp

set_option maxHeartbeats 2000000 in
theorem uparse_no (s d : Int) (a : Option Addr) (b off len cap : Nat) (l : List Int) (w : World) (s0 : 0 ≤ s) (s1 : s < 4294967296) (t0 : 0 ≤ d) (t1 : d < 4294967296) (ha : a = some ⟨b, off, none⟩ ∨ l = []) (hA : At w b off len cap l) (hl : len ≤ 70000) (h : ¬ parseU s d l = 0) :
    Calls Try.prog 59 #[.int .u32 s, .int .u32 d, .slice a len cap] w fun e w' => e = .returned (.tuple #[udV Ud.zero (.slice none 0 0), .int .i64 (parseU s d l)]) ∧ Below w.heap.size w w' := by
  have HE : Hid (¬ parseU s d l = 0) := h
  obtain ⟨E, hEE⟩ : ∃ E, parseU s d l = E := ⟨_, rfl⟩
  have hne : (E != 0) = true := by rw [bne_iff_ne, ← hEE]; exact h
  rw [hEE]
  have HEE : Hid (parseU s d l = E) := hEE
  clear h hEE
  go_enter Try.func59, Try.ntmps59
  go_wp2_with fail
  refine (umeas_no s d a b off len cap l _ s0 s1 t0 t1 ha (hA.later (below_alloc _ _)) hl HE.out).mono ?_
  rintro e w1 ⟨rfl, hb1⟩
  rw [HEE.out]
  obtain ⟨⟨c0, c1, c2, c3⟩, hfz⟩ := zeroU_cells rfl hb1
  have bel : Below w.heap.size w ((((w1.setCell ⟨w.heap.size, 0, none⟩ (.int .i64 0)).setCell ⟨w.heap.size, 1, none⟩ (.int .i64 0)).setCell ⟨w.heap.size, 2, none⟩ (.bool false)).setCell ⟨w.heap.size, 3, none⟩ (.slice none 0 0)) := by
    have hle : w.heap.size ≤ w.heap.size := Nat.le_refl _
    exact (((((below_trans (below_alloc _ _) hb1).setCell hle _).setCell hle _).setCell hle _).setCell hle _)
  clear hb1
  go_wp2
  refine bodyPost_ret (v := .tuple #[udV Ud.zero (.slice none 0 0), .int .i64 E]) ?_ rfl ?_
  · simp [results, Try.results59, go_sem, c0, c1, c2, c3, Ud.zero]
  exact ⟨rfl, bel⟩

set_option maxHeartbeats 8000000 in
theorem uparse_own (s d : Int) (b off len cap : Nat) (l : List Int) (w : World) (s0 : 0 ≤ s) (s1 : s < 4294967296) (t0 : 0 ≤ d) (t1 : d < 4294967296) (hA : At w b off len cap l) (hl : len ≤ 70000) (g : UGood s d l) :
    Calls Try.prog 59 #[.int .u32 s, .int .u32 d, .slice (some ⟨b, off, none⟩) len cap] w fun e w' =>
      ∃ a1 k1, e = .returned (.tuple #[udV (udOf l) (.slice a1 (udOf l).data.length k1), .int .i64 0]) ∧ Owns w' w.heap.size (.slice a1 (udOf l).data.length k1) (udOf l).data ∧ Below w.heap.size w w' := by
  have hL := hA.len
  have hc := hA.cap1
  have HG : Hid (UGood s d l) := g
  have g2 := g.b
  have g3 := g.c
  have g1 := g.a
  rw [hL] at g1 g3
  have i5 : (0 : Int) ≤ w2 l 4 := by omega
  have i7 : w2 l 4 ≤ (cap : Int) := by omega
  obtain ⟨V1, hsl1, ho1⟩ := slice_part b off len cap 8 (w2 l 4) 8 (w2 l 4).toNat rfl (by omega) (by omega) (by omega)
  have HBL : Hid (isBytes l) := hA.bytes
  clear g hL
  go_enter Try.func59, Try.ntmps59
  go_wp2_with fail
  refine (umeas_yes s d b off len cap l _ s0 s1 t0 t1 (hA.later (below_alloc _ _)) hl HG.out).mono ?_
  rintro e w1 ⟨rfl, hb1⟩
  have hb0 : Below w.heap.size w w1 := below_trans (below_alloc _ _) hb1
  have hA1 := hA.later hb0
  have HW : Hid (Below (w.alloc (.cells zeroUC 49)).heap.size (w.alloc (.cells zeroUC 49)) w1) := hb1
  have hsz := hb1.size
  simp only [World.size_alloc] at hsz
  clear hb1
  go_wp2_with fail
  go_region_held3 (fun w' => True) (first | trivial | go_keep)
    (first
      | (go_at_call_of 69 (Value.int .i64 0); refine (uword_any b off len cap l 0 0 _ (hA1.later (Below.refl _ _).drew) rfl (by omega)).mono ?_; rintro e w2' ⟨rfl, hw2⟩; have hw2 := hw2.symm; subst hw2)
      | (go_at_call_of 69 (Value.int .i64 2); refine (uword_any b off len cap l 2 2 _ (hA1.later (Below.refl _ _).drew) rfl (by omega)).mono ?_; rintro e w2' ⟨rfl, hw2⟩; have hw2 := hw2.symm; subst hw2)
      | (go_at_call_of 69 (Value.int .i64 6); refine (uword_any b off len cap l 6 6 _ (hA1.later (Below.refl _ _).drew) rfl (by omega)).mono ?_; rintro e w2' ⟨rfl, hw2⟩; have hw2 := hw2.symm; subst hw2)
      | (go_at_call 58; refine (clone_part V1 b off len cap 8 (w2 l 4).toNat l _ ho1 (hA1.later (Below.refl _ _).drew) (by omega) (by omega) (by omega)).mono ?_; rintro e w3 ⟨v1, rfl, hv1, hb3'⟩; obtain ⟨a1, k1, rfl⟩ := Bts.shapeL (l := (udOf l).data) (hv1.bts (isBytes_part l HBL.out _ _)); have hb3 : Below w1.heap.size w1 w3 := below_trans (Below.refl _ _).drew hb3'; obtain ⟨⟨c0, c1, c2, c3⟩, hfz⟩ := zeroU_cells rfl (below_trans HW.out hb3)))
  have hbq : (w2 l 6 == 0) = decide (w2 l 6 = 0) := rfl
  rw [hbq]
  obtain ⟨W, hW⟩ : ∃ W, W = ((((w3.setCell ⟨w.heap.size, 0, none⟩ (.int .i64 (w2 l 0))).setCell ⟨w.heap.size, 1, none⟩ (.int .i64 (w2 l 2))).setCell ⟨w.heap.size, 2, none⟩ (.bool (decide (w2 l 6 = 0)))).setCell ⟨w.heap.size, 3, none⟩ (.slice a1 (udOf l).data.length k1)) := ⟨_, rfl⟩
  have hlt : w.heap.size < w1.drew.heap.size := by show w.heap.size < w1.heap.size; omega
  have B1 : Owns W w1.drew.heap.size (.slice a1 (udOf l).data.length k1) (udOf l).data := by
    rw [hW]
    exact ((((hv1.store hlt _).store hlt _).store hlt _).store hlt _)
  have bel : Below w.heap.size w W := by
    rw [hW]
    have hle : w.heap.size ≤ w.heap.size := Nat.le_refl _
    exact (((((below_trans hb0 hb3).setCell hle _).setCell hle _).setCell hle _).setCell hle _)
  have r0 : W.cell? ⟨w.heap.size, 0, none⟩ = some (.int .i64 (w2 l 0)) := by rw [hW]; simp [go_sem, c0]
  have r1 : W.cell? ⟨w.heap.size, 1, none⟩ = some (.int .i64 (w2 l 2)) := by rw [hW]; simp [go_sem, c1]
  have r2 : W.cell? ⟨w.heap.size, 2, none⟩ = some (.bool (decide (w2 l 6 = 0))) := by rw [hW]; simp [go_sem, c2]
  have r3 : W.cell? ⟨w.heap.size, 3, none⟩ = some (.slice a1 (udOf l).data.length k1) := by rw [hW]; simp [go_sem, c3]
  rw [← hW]
  clear hW c0 c1 c2 c3 hfz hv1 hb3 hb3' hb0 hA hA1 hsl1 ho1 HW hbq
  go_wp2
  refine bodyPost_ret (v := .tuple #[udV (udOf l) (.slice a1 (udOf l).data.length k1), .int .i64 0]) ?_ rfl ?_
  · simp [results, Try.results59, go_sem, r0, r1, r2, r3, udOf]
  exact ⟨_, _, rfl, B1.low (Nat.le_of_lt hlt), bel⟩

theorem uparse_ok (s d : Int) (b off len cap : Nat) (l : List Int) (w : World) (s0 : 0 ≤ s) (s1 : s < 4294967296) (t0 : 0 ≤ d) (t1 : d < 4294967296) (hA : At w b off len cap l) (hl : len ≤ 70000) (g : UGood s d l) :
    Calls Try.prog 59 #[.int .u32 s, .int .u32 d, .slice (some ⟨b, off, none⟩) len cap] w fun e w' =>
      ∃ a1 k1, e = .returned (.tuple #[udV (udOf l) (.slice a1 (udOf l).data.length k1), .int .i64 0]) ∧ Bts w' (.slice a1 (udOf l).data.length k1) (udOf l).data ∧ Below w.heap.size w w' := by
  refine (uparse_own s d b off len cap l w s0 s1 t0 t1 hA hl g).mono ?_
  rintro e w' ⟨a1, k1, rfl, ho, hb⟩
  exact ⟨a1, k1, rfl, ho.bts (isBytes_part l hA.bytes _ _), hb⟩
end Go.Proofs.Ytdejjokgchbgnaa

namespace Go.Proofs.Ytdejjokgchbgnaa
open Go.RowKit

set_option maxHeartbeats 400000 in
theorem number_any (b off len cap : Nat) (l : List Int) (q m : Int) (k n : Nat) (w : World) (hA : At w b off len cap l) (hq : q = (k : Int)) (hm : m = (n : Int)) (h1 : 1 ≤ n) (h2 : n ≤ 8) (hk : k + n ≤ len) :
    Calls Try.prog 71 #[.slice (some ⟨b, off, none⟩) len cap, .int .i64 q, .int .i64 m] w fun e w' => e = .returned (.int .u64 (num ((l.drop k).take n))) ∧ w' = w := by
  subst hq hm
  have hc1 := hA.cap1
  have hc2 := hA.cap2
  have hg := get_yes b off len cap l k n w (Nat.le_trans hc1 hc2) hc1 hc2 hA.len hA.bytes hA.sees h1 h2 hk
  clear hA
  go_enter Try.func71, Try.ntmps71
  go_wp2_with fail
  refine hg.mono ?_
  rintro e w' ⟨rfl, rfl⟩
  go_wp2
  go_ret
  exact ⟨rfl, rfl⟩

theorem num2 (l : List Int) (k : Nat) (h : k + 2 ≤ l.length) : num ((l.drop k).take 2) = w2 l k := by
  have := getV2 l k h
  unfold getV at this
  rwa [if_pos (by unfold holdsB; simp; omega), Int.toNat_natCast] at this

theorem num4 (l : List Int) (k : Nat) (h : k + 4 ≤ l.length) : num ((l.drop k).take 4) = w4 l k := by
  have := getV4 l k h
  unfold getV at this
  rwa [if_pos (by unfold holdsB; simp; omega), Int.toNat_natCast] at this

theorem tnumber2 (b off len cap : Nat) (l : List Int) (q : Int) (k : Nat) (w : World) (hA : At w b off len cap l) (hq : q = (k : Int)) (hk : k + 2 ≤ len) :
    Calls Try.prog 71 #[.slice (some ⟨b, off, none⟩) len cap, .int .i64 q, .int .i64 2] w fun e w' => e = .returned (.int .u64 (w2 l k)) ∧ w' = w := by
  have := number_any b off len cap l q 2 k 2 w hA hq rfl (by decide) (by decide) hk
  rwa [num2 l k (by rw [hA.len]; exact hk)] at this

theorem tnumber4 (b off len cap : Nat) (l : List Int) (q : Int) (k : Nat) (w : World) (hA : At w b off len cap l) (hq : q = (k : Int)) (hk : k + 4 ≤ len) :
    Calls Try.prog 71 #[.slice (some ⟨b, off, none⟩) len cap, .int .i64 q, .int .i64 4] w fun e w' => e = .returned (.int .u64 (w4 l k)) ∧ w' = w := by
  have := number_any b off len cap l q 4 k 4 w hA hq rfl (by decide) (by decide) hk
  rwa [num4 l k (by rw [hA.len]; exact hk)] at this

/-- The closure over the flags that lie in the block B. -/
@[reducible] def testV (B : Nat) : Value := .func (.func 77) #[] #[.pointer (some ⟨B, 0, none⟩)]

theorem tester_any (f : Int) (w : World) : Calls Try.prog 75 #[.int .i64 f] w fun e w' => e = .returned (testV w.heap.size) ∧ w' = w.alloc (.cells #[.int .i64 f] 3) := by
  have hmf : ∀ (fn : Fn) (first cap : Array Value) (w : World), (Instr.makeFunc fn first cap).run Try.prog w = .ok (.func fn first cap) w := fun _ _ _ _ => rfl
  go_enter Try.func75, Try.ntmps75
  go_wp2
  go_ret
  exact ⟨rfl, rfl⟩

theorem tests_any (f m : Int) (B : Nat) (w : World) (hc : w.cell? ⟨B, 0, none⟩ = some (.int .i64 f)) :
    Calls Try.prog 77 #[.int .i64 m, .pointer (some ⟨B, 0, none⟩)] w fun e w' => e = .returned (.bool (bits .and .i64 f m != 0)) ∧ w' = w := by
  go_enter Try.func77, Try.ntmps77
  go_wp2
  go_ret
  exact ⟨rfl, rfl⟩
end Go.Proofs.Ytdejjokgchbgnaa

namespace Go.Proofs.Ytdejjokgchbgnaa
open Go.RowKit

/-- A segment as a value. -/
@[reducible] def pcV (p : Pc) (vo vd : Value) : Value := .agg #[.int .i64 p.src, .int .i64 p.dst, .int .u32 p.seq, .int .u32 p.ack, .int .i64 p.flags, .int .i64 p.window, .int .i64 p.urgent, vo, vd]

@[reducible] def pcC (p : Pc) (vo vd : Value) : Array Value := #[.int .i64 p.src, .int .i64 p.dst, .int .u32 p.seq, .int .u32 p.ack, .int .i64 p.flags, .int .i64 p.window, .int .i64 p.urgent, vo, vd]

def argB (p : Pc) : Bool := decide (TArg p)

theorem fits_two (w : World) (f : Int) (C : Array Value) (t : TypeId) : Below w.heap.size w ((w.alloc (.cells C t)).alloc (.cells #[.int .i64 f] 3)) :=
  below_trans (below_alloc _ _) (below_alloc _ _)

theorem flag_cell (w : World) (f : Int) : (w.alloc (.cells #[.int .i64 f] 3)).cell? ⟨w.heap.size, 0, none⟩ = some (.int .i64 f) := by
  rw [World.cell?_alloc_mark w #[.int .i64 f] 3 (0, 0) 0]; rfl

end Go.Proofs.Ytdejjokgchbgnaa

namespace Go.Proofs.Ytdejjokgchbgnaa
open Go.RowKit
attribute [local go_sem ↓] Go.wp_at_zero Go.wp_at_succ

theorem tmake20 : ∃ Z : Array Value, Hid (∀ j, j < 20 → Z[j]? = some (.int .u8 0)) ∧ ∀ W : World, (Instr.makeSlice 23 (.int .i64 20) (.int .i64 20)).run Try.prog W = .ok (.slice (some ⟨W.heap.size, 0, none⟩) 20 20) (W.alloc (.cells Z 5)) := by
  refine ⟨madeCells #[.int .u8 0] 20, ?_, fun W => run_make_row' (P := Try.prog) 23 5 (.int .u8 0) 1 Try.underlying23 info5 rfl .i64 .i64 20 (by decide) (by decide) W⟩
  show ∀ j, j < 20 → (madeCells #[.int .u8 0] 20)[j]? = some (.int .u8 0)
  intro j hj
  simp [madeCells, hj, Nat.mod_one]

def zerosT20 : List Int := [0, 0, 0, 0, 0, 0, 0, 0, 0, 0, 0, 0, 0, 0, 0, 0, 0, 0, 0, 0]

theorem zeros20_bts (w : World) (Z : Array Value) (h : ∀ j, j < 20 → Z[j]? = some (.int .u8 0)) (N : Nat) (hN : N = w.heap.size) : Bts (w.alloc (.cells Z 5)) (.slice (some ⟨N, 0, none⟩) 20 20) zerosT20 := by
  subst hN
  exact ⟨_, 20, w.heap.size, 0, rfl, by decide, by decide, (by unfold isBytes zerosT20; decide), .inl rfl, zeros_sees w Z 20 h⟩

theorem div3 (x : Int) : x / 256 / 256 / 256 % 256 = x / 16777216 % 256 := by omega

theorem div2 (x : Int) : x / 256 / 256 % 256 = x / 65536 % 256 := by omega

set_option maxHeartbeats 1000000 in
/-- What is laid, one field behind the other. -/
theorem header_list (p : Pc) :
    lay (lay (lay (lay (lay (lay (lay (zerosT20 ++ p.opts) 0 2 p.src) 2 2 p.dst) 4 4 p.seq) 8 4 p.ack) 12 2 p.lead) 14 2 p.window) 18 2 p.urgent = headT p 0 := by
  have e : lay (lay (lay (lay (lay (lay (lay (zerosT20 ++ p.opts) 0 2 p.src) 2 2 p.dst) 4 4 p.seq) 8 4 p.ack) 12 2 p.lead) 14 2 p.window) 18 2 p.urgent =
      (p.src / 256 % 256) :: (p.src % 256) :: (p.dst / 256 % 256) :: (p.dst % 256) :: (p.seq / 256 / 256 / 256 % 256) :: (p.seq / 256 / 256 % 256) :: (p.seq / 256 % 256) :: (p.seq % 256) :: (p.ack / 256 / 256 / 256 % 256) :: (p.ack / 256 / 256 % 256) :: (p.ack / 256 % 256) :: (p.ack % 256) ::
        (p.lead / 256 % 256) :: (p.lead % 256) :: (p.window / 256 % 256) :: (p.window % 256) :: 0 :: 0 :: (p.urgent / 256 % 256) :: (p.urgent % 256) :: p.opts := by
    simp [lay, zerosT20]
  rw [e, div3, div3, div2, div2]
  rfl

theorem check_list (p : Pc) (c : Int) : lay (headT p 0) 16 2 c = headT p c := by
  simp [lay, headT, fixT]

end Go.Proofs.Ytdejjokgchbgnaa

namespace Go.Proofs.Ytdejjokgchbgnaa
open Go.RowKit
attribute [local go_sem ↓] Go.wp_at_zero Go.wp_at_succ

theorem boxesP {w w' : World} {p : Pc} {vo vd : Value} {t : TypeId} (hb : Below (w.alloc (.cells (pcC p vo vd) t)).heap.size (w.alloc (.cells (pcC p vo vd) t)) w') :
    w'.cell? ⟨w.heap.size, 0, none⟩ = some (.int .i64 p.src) ∧ w'.cell? ⟨w.heap.size, 1, none⟩ = some (.int .i64 p.dst) ∧ w'.cell? ⟨w.heap.size, 2, none⟩ = some (.int .u32 p.seq) ∧ w'.cell? ⟨w.heap.size, 3, none⟩ = some (.int .u32 p.ack) ∧ w'.cell? ⟨w.heap.size, 4, none⟩ = some (.int .i64 p.flags) ∧
      w'.cell? ⟨w.heap.size, 5, none⟩ = some (.int .i64 p.window) ∧ w'.cell? ⟨w.heap.size, 6, none⟩ = some (.int .i64 p.urgent) ∧ w'.cell? ⟨w.heap.size, 7, none⟩ = some vo ∧ w'.cell? ⟨w.heap.size, 8, none⟩ = some vd :=
  ⟨box_cell hb 0 _ rfl, box_cell hb 1 _ rfl, box_cell hb 2 _ rfl, box_cell hb 3 _ rfl, box_cell hb 4 _ rfl, box_cell hb 5 _ rfl, box_cell hb 6 _ rfl, box_cell hb 7 _ rfl, box_cell hb 8 _ rfl⟩

theorem thead_bts {w : World} {G : Nat} {p : Pc} {c : Int} {n : Nat} (h : Sees w G 0 (headT p c)) (hn : n = 20 + p.opts.length) (hl : p.opts.length ≤ 40) (hb : isBytes p.opts) : Bts w (.slice (some ⟨G, 0, none⟩) n n) (headT p c) := by
  subst hn
  exact ⟨_, 20 + p.opts.length, G, 0, by rw [headT_length], by rw [headT_length]; exact Nat.le_refl _, by unfold maxLen; omega, headT_bytes p c hb, .inl rfl, h⟩

end Go.Proofs.Ytdejjokgchbgnaa

namespace Go.Proofs.Ytdejjokgchbgnaa
open Go.RowKit
attribute [local go_sem ↓] Go.wp_at_zero Go.wp_at_succ

theorem lead_hd (l : List Int) (hb : isBytes l) : w2 l 12 / 4096 * 4 = hdT l := by
  have h1 := getD_byte l hb 12
  have h2 := getD_byte l hb 13
  unfold w2 hdT b1
  rw [show 12 + 1 = 13 from rfl]
  omega

theorem lead_spare (l : List Int) (hb : isBytes l) : w2 l 12 / 256 % 16 = b1 l 12 % 16 := by
  have h1 := getD_byte l hb 12
  have h2 := getD_byte l hb 13
  unfold w2 b1
  rw [show 12 + 1 = 13 from rfl]
  omega

theorem lead_flags (l : List Int) (hb : isBytes l) : w2 l 12 % 256 = b1 l 13 := by
  have h1 := getD_byte l hb 12
  have h2 := getD_byte l hb 13
  unfold w2 b1
  rw [show 12 + 1 = 13 from rfl]
  omega

theorem hdT_bd (l : List Int) (hb : isBytes l) : 0 ≤ hdT l ∧ hdT l ≤ 60 := by
  have h1 := getD_byte l hb 12
  unfold hdT b1
  omega

theorem tmeas_short (s d : Int) (a : Option Addr) (len cap : Nat) (w : World) (h : len < 20) :
    Calls Try.prog 70 #[.int .u32 s, .int .u32 d, .slice a len cap] w fun e w' => e = .returned (.tuple #[.int .i64 0, .int .i64 2]) ∧ Below w.heap.size w w' := by
  have h' : (len : Int) < 20 := by omega
  go_enter Try.func70, Try.ntmps70
  go_wp2
  go_ret2
  exact ⟨rfl, Below.refl _ _⟩

set_option maxHeartbeats 1000000 in
theorem tmeas_few (s d : Int) (b off len cap : Nat) (l : List Int) (w : World) (hA : At w b off len cap l) (g1 : 20 ≤ len) (h : hdT l < 20) :
    Calls Try.prog 70 #[.int .u32 s, .int .u32 d, .slice (some ⟨b, off, none⟩) len cap] w fun e w' => e = .returned (.tuple #[.int .i64 0, .int .i64 4]) ∧ Below w.heap.size w w' := by
  have h' : ¬ (len : Int) < 20 := by omega
  have e1 := lead_hd l hA.bytes
  obtain ⟨x0, x1⟩ := w2_bd l hA.bytes 12
  have hn := tnumber2 b off len cap l 12 12 w hA rfl (by omega)
  have hx : w2 l 12 / 4096 * 4 < 20 := by rw [e1]; exact h
  generalize w2 l 12 = X at *
  clear hA e1 h
  go_enter Try.func70, Try.ntmps70
  go_wp2_with fail
  refine hn.mono ?_
  rintro e w' ⟨rfl, rfl⟩
  go_wp2_with (go_at_call 75; refine (tester_any _ _).mono ?_; rintro e w' ⟨rfl, rfl⟩)
  go_ret2
  exact ⟨rfl, below_alloc _ _⟩

set_option maxHeartbeats 1000000 in
theorem tmeas_spare (s d : Int) (b off len cap : Nat) (l : List Int) (w : World) (hA : At w b off len cap l) (g1 : 20 ≤ len) (g2 : ¬ hdT l < 20) (h : b1 l 12 % 16 ≠ 0) :
    Calls Try.prog 70 #[.int .u32 s, .int .u32 d, .slice (some ⟨b, off, none⟩) len cap] w fun e w' => e = .returned (.tuple #[.int .i64 0, .int .i64 4]) ∧ Below w.heap.size w w' := by
  have h' : ¬ (len : Int) < 20 := by omega
  have e1 := lead_hd l hA.bytes
  have e2 := lead_spare l hA.bytes
  obtain ⟨x0, x1⟩ := w2_bd l hA.bytes 12
  have hn := tnumber2 b off len cap l 12 12 w hA rfl (by omega)
  have hx : ¬ w2 l 12 / 4096 * 4 < 20 := by rw [e1]; exact g2
  have hsp : (bits .and .i64 (w2 l 12) 3840 != 0) = true := by rw [spare_bits _ x0 x1, e2]; exact decide_eq_true h
  generalize w2 l 12 = X at *
  have hc := flag_cell w X
  clear hA e1 e2 g2 h
  go_enter Try.func70, Try.ntmps70
  go_wp2_with fail
  refine hn.mono ?_
  rintro e w' ⟨rfl, rfl⟩
  go_wp2_with (first | (go_at_call 75; refine (tester_any _ _).mono ?_; rintro e w' ⟨rfl, rfl⟩) | (go_at_call 77; refine (tests_any X _ _ _ (by with_reducible exact hc)).mono ?_; rintro e w' ⟨rfl, rfl⟩))
  go_ret2
  exact ⟨rfl, below_alloc _ _⟩

set_option maxHeartbeats 1000000 in
theorem tmeas_long (s d : Int) (b off len cap : Nat) (l : List Int) (w : World) (hA : At w b off len cap l) (g1 : 20 ≤ len) (g2 : ¬ hdT l < 20) (g3 : b1 l 12 % 16 = 0) (h : (len : Int) < hdT l) :
    Calls Try.prog 70 #[.int .u32 s, .int .u32 d, .slice (some ⟨b, off, none⟩) len cap] w fun e w' => e = .returned (.tuple #[.int .i64 0, .int .i64 2]) ∧ Below w.heap.size w w' := by
  have h' : ¬ (len : Int) < 20 := by omega
  have e1 := lead_hd l hA.bytes
  have e2 := lead_spare l hA.bytes
  obtain ⟨x0, x1⟩ := w2_bd l hA.bytes 12
  have hn := tnumber2 b off len cap l 12 12 w hA rfl (by omega)
  have hx : ¬ w2 l 12 / 4096 * 4 < 20 := by rw [e1]; exact g2
  have hy : (len : Int) < w2 l 12 / 4096 * 4 := by rw [e1]; exact h
  have hsp : (bits .and .i64 (w2 l 12) 3840 != 0) = false := by rw [spare_bits _ x0 x1, e2, g3]; rfl
  generalize w2 l 12 = X at *
  have hc := flag_cell w X
  clear hA e1 e2 g2 h g3
  go_enter Try.func70, Try.ntmps70
  go_wp2_with fail
  refine hn.mono ?_
  rintro e w' ⟨rfl, rfl⟩
  go_wp2_with (first | (go_at_call 75; refine (tester_any _ _).mono ?_; rintro e w' ⟨rfl, rfl⟩) | (go_at_call 77; refine (tests_any X _ _ _ (by with_reducible exact hc)).mono ?_; rintro e w' ⟨rfl, rfl⟩))
  go_ret2
  exact ⟨rfl, below_alloc _ _⟩

set_option maxHeartbeats 4000000 in
theorem tmeas_sum (s d : Int) (b off len cap : Nat) (l : List Int) (w : World) (s0 : 0 ≤ s) (s1 : s < 4294967296) (t0 : 0 ≤ d) (t1 : d < 4294967296) (hA : At w b off len cap l) (hl : len ≤ 70000) (g1 : 20 ≤ len) (g2 : ¬ hdT l < 20) (g3 : b1 l 12 % 16 = 0) (g4 : ¬ (len : Int) < hdT l) (h : fold16 (ws (pseudoB s d 6 len ++ l)) ≠ 65535) :
    Calls Try.prog 70 #[.int .u32 s, .int .u32 d, .slice (some ⟨b, off, none⟩) len cap] w fun e w' => e = .returned (.tuple #[.int .i64 0, .int .i64 5]) ∧ Below w.heap.size w w' := by
  have h' : ¬ (len : Int) < 20 := by omega
  have e1 := lead_hd l hA.bytes
  have e2 := lead_spare l hA.bytes
  obtain ⟨x0, x1⟩ := w2_bd l hA.bytes 12
  have hn := tnumber2 b off len cap l 12 12 w hA rfl (by omega)
  have hx : ¬ w2 l 12 / 4096 * 4 < 20 := by rw [e1]; exact g2
  have hy : ¬ (len : Int) < w2 l 12 / 4096 * 4 := by rw [e1]; exact g4
  have hsp : (bits .and .i64 (w2 l 12) 3840 != 0) = false := by rw [spare_bits _ x0 x1, e2, g3]; rfl
  have hs : (fold16 (ws (pseudoB s d 6 len ++ l)) != 65535) = true := by rw [bne_iff_ne]; exact h
  have HLL : Hid (l.length = len) := hA.len
  generalize w2 l 12 = X at *
  have hc := flag_cell w X
  have hA1 := hA.later (below_alloc w (.cells #[.int .i64 X] 3))
  clear hA e1 e2 g2 h g3 g4
  go_enter Try.func70, Try.ntmps70
  go_wp2_with fail
  refine hn.mono ?_
  rintro e w' ⟨rfl, rfl⟩
  go_wp2_with (first | (go_at_call 75; refine (tester_any _ _).mono ?_; rintro e w' ⟨rfl, rfl⟩) | (go_at_call 77; refine (tests_any X _ _ _ (by with_reducible exact hc)).mono ?_; rintro e w' ⟨rfl, rfl⟩))
  refine (pseudo_any s d 6 (len : Int) _ s0 s1 t0 t1).mono ?_
  rintro e w4 ⟨G4, rfl, hP, hb4⟩
  have hB4 := (hA1.later hb4).bts
  go_wp2_with fail
  refine (sum2 w4 _ _ _ _ _ 23 (by simp) hP hB4 (by rw [pseudo_length, HLL.out]; omega)).mono ?_
  rintro e w5 ⟨rfl, rfl⟩
  have hx5 := below_trans (below_alloc w' (.cells #[.int .i64 X] 3)) (below_trans hb4 (below_alloc w4 (.cells #[.slice (some ⟨G4, 0, none⟩) 12 12, .slice (some ⟨b, off, none⟩) len cap] 23)))
  clear hP hB4 hb4 hA1
  go_wp2
  go_ret2
  exact ⟨rfl, hx5⟩

set_option maxHeartbeats 4000000 in
theorem tmeas_ok (s d : Int) (b off len cap : Nat) (l : List Int) (w : World) (s0 : 0 ≤ s) (s1 : s < 4294967296) (t0 : 0 ≤ d) (t1 : d < 4294967296) (hA : At w b off len cap l) (hl : len ≤ 70000) (g1 : 20 ≤ len) (g2 : ¬ hdT l < 20) (g3 : b1 l 12 % 16 = 0) (g4 : ¬ (len : Int) < hdT l) (h : fold16 (ws (pseudoB s d 6 len ++ l)) = 65535) :
    Calls Try.prog 70 #[.int .u32 s, .int .u32 d, .slice (some ⟨b, off, none⟩) len cap] w fun e w' => e = .returned (.tuple #[.int .i64 (hdT l), .int .i64 0]) ∧ Below w.heap.size w w' := by
  have h' : ¬ (len : Int) < 20 := by omega
  have e1 := lead_hd l hA.bytes
  have e2 := lead_spare l hA.bytes
  obtain ⟨x0, x1⟩ := w2_bd l hA.bytes 12
  have hn := tnumber2 b off len cap l 12 12 w hA rfl (by omega)
  have hx : ¬ w2 l 12 / 4096 * 4 < 20 := by rw [e1]; exact g2
  have hy : ¬ (len : Int) < w2 l 12 / 4096 * 4 := by rw [e1]; exact g4
  have hsp : (bits .and .i64 (w2 l 12) 3840 != 0) = false := by rw [spare_bits _ x0 x1, e2, g3]; rfl
  have hs : (fold16 (ws (pseudoB s d 6 len ++ l)) != 65535) = false := by rw [h]; rfl
  have HLL : Hid (l.length = len) := hA.len
  rw [← e1]
  generalize w2 l 12 = X at *
  have hc := flag_cell w X
  have hA1 := hA.later (below_alloc w (.cells #[.int .i64 X] 3))
  clear hA e1 e2 g2 h g3 g4
  go_enter Try.func70, Try.ntmps70
  go_wp2_with fail
  refine hn.mono ?_
  rintro e w' ⟨rfl, rfl⟩
  go_wp2_with (first | (go_at_call 75; refine (tester_any _ _).mono ?_; rintro e w' ⟨rfl, rfl⟩) | (go_at_call 77; refine (tests_any X _ _ _ (by with_reducible exact hc)).mono ?_; rintro e w' ⟨rfl, rfl⟩))
  refine (pseudo_any s d 6 (len : Int) _ s0 s1 t0 t1).mono ?_
  rintro e w4 ⟨G4, rfl, hP, hb4⟩
  have hB4 := (hA1.later hb4).bts
  go_wp2_with fail
  refine (sum2 w4 _ _ _ _ _ 23 (by simp) hP hB4 (by rw [pseudo_length, HLL.out]; omega)).mono ?_
  rintro e w5 ⟨rfl, rfl⟩
  have hx5 := below_trans (below_alloc w' (.cells #[.int .i64 X] 3)) (below_trans hb4 (below_alloc w4 (.cells #[.slice (some ⟨G4, 0, none⟩) 12 12, .slice (some ⟨b, off, none⟩) len cap] 23)))
  clear hP hB4 hb4 hA1
  go_wp2
  go_ret2
  exact ⟨rfl, hx5⟩

theorem tmeas_no (s d : Int) (a : Option Addr) (b off len cap : Nat) (l : List Int) (w : World) (s0 : 0 ≤ s) (s1 : s < 4294967296) (t0 : 0 ≤ d) (t1 : d < 4294967296) (ha : a = some ⟨b, off, none⟩ ∨ l = []) (hA : At w b off len cap l) (hl : len ≤ 70000) (h : ¬ parseT s d l = 0) :
    Calls Try.prog 70 #[.int .u32 s, .int .u32 d, .slice a len cap] w fun e w' => e = .returned (.tuple #[.int .i64 0, .int .i64 (parseT s d l)]) ∧ Below w.heap.size w w' := by
  have hL := hA.len
  obtain ⟨E, hE⟩ : ∃ E, parseT s d l = E := ⟨_, rfl⟩
  rw [hE] at h ⊢
  unfold parseT at hE
  by_cases g1 : l.length < 20
  · rw [if_pos g1] at hE; subst hE; exact tmeas_short s d a len cap w (by omega)
  rw [if_neg g1] at hE
  rcases ha with rfl | rfl
  case inr => simp at g1
  by_cases g2 : hdT l < 20
  · rw [if_pos (.inl g2)] at hE; subst hE; exact tmeas_few s d b off len cap l w hA (by omega) g2
  by_cases g3 : b1 l 12 % 16 = 0
  case neg => rw [if_pos (.inr g3)] at hE; subst hE; exact tmeas_spare s d b off len cap l w hA (by omega) g2 g3
  rw [if_neg (by omega)] at hE
  by_cases g4 : (l.length : Int) < hdT l
  · rw [if_pos g4] at hE; subst hE; exact tmeas_long s d b off len cap l w hA (by omega) g2 g3 (by omega)
  rw [if_neg g4, hL] at hE
  rw [hL] at g4
  by_cases g5 : fold16 (ws (pseudoB s d 6 (len : Int) ++ l)) ≠ 65535
  · rw [if_pos g5] at hE; subst hE; exact tmeas_sum s d b off len cap l w s0 s1 t0 t1 hA hl (by omega) g2 g3 g4 g5
  rw [if_neg g5] at hE
  exact absurd hE.symm h

theorem tmeas_yes (s d : Int) (b off len cap : Nat) (l : List Int) (w : World) (s0 : 0 ≤ s) (s1 : s < 4294967296) (t0 : 0 ≤ d) (t1 : d < 4294967296) (hA : At w b off len cap l) (hl : len ≤ 70000) (g : TGood s d l) :
    Calls Try.prog 70 #[.int .u32 s, .int .u32 d, .slice (some ⟨b, off, none⟩) len cap] w fun e w' => e = .returned (.tuple #[.int .i64 (hdT l), .int .i64 0]) ∧ Below w.heap.size w w' := by
  have hL := hA.len
  obtain ⟨g1, g2, g3, g4, g5⟩ := g
  rw [hL] at g1 g4 g5
  exact tmeas_ok s d b off len cap l w s0 s1 t0 t1 hA hl g1 (by omega) g3 (by omega) g5
end Go.Proofs.Ytdejjokgchbgnaa

namespace Go.Proofs.Ytdejjokgchbgnaa
open Go.RowKit
attribute [local go_sem ↓] Go.wp_at_zero Go.wp_at_succ

theorem slice_from (b off len cap : Nat) (x : Int) (p : Nat) (hx : x = (p : Int)) (hp : p ≤ len) (hc : len ≤ cap) :
    ∃ V : Value, (∀ W, (Instr.slice 23 (.slice (some ⟨b, off, none⟩) len cap) (some (.int .i64 x)) none none).run Try.prog W = .ok V W) ∧ PartV V b off cap p len := by
  subst hx
  have ht' : Try.prog.underlying 23 = some (.slice (Try.prog.elem 23)) := by simp [Program.elem, Try.underlying23]
  have he : Try.prog.elem 23 = 5 := by simp [Program.elem, Try.underlying23]
  refine ⟨.slice (some ⟨b, if cap = p then off else off + p, none⟩) (len - p) (cap - p), fun W => ?_, _, rfl, ?_⟩
  · rw [run_slice_l W 23 _ _ _ ht' .i64 _ (by omega) (by omega), he, Try.sizeOf5]
    by_cases hc : cap = p
    · simp [Result.andThen, sliced, hc]
    · simp [Result.andThen, sliced, hc, add_at]
  · by_cases hc : cap = p
    · right; omega
    · left; rw [if_neg hc]

theorem Bts.shapeT {w : World} {v : Value} {l : List Int} (h : Bts w v l) : ∃ a c, v = .slice a l.length c := by
  obtain ⟨a, c, _, _, rfl, _⟩ := h; exact ⟨_, _, rfl⟩

@[reducible] def zeroTC : Array Value := #[.int .i64 0, .int .i64 0, .int .u32 0, .int .u32 0, .int .i64 0, .int .i64 0, .int .i64 0, .slice none 0 0, .slice none 0 0]

theorem zeroT_cells {w w0 w' : World} {t : TypeId} (h : w0 = w.alloc (.cells zeroTC t)) (hb : Below w0.heap.size w0 w') :
    (w'.cell? ⟨w.heap.size, 0, none⟩ = some (.int .i64 0) ∧ w'.cell? ⟨w.heap.size, 1, none⟩ = some (.int .i64 0) ∧ w'.cell? ⟨w.heap.size, 2, none⟩ = some (.int .u32 0) ∧ w'.cell? ⟨w.heap.size, 3, none⟩ = some (.int .u32 0) ∧ w'.cell? ⟨w.heap.size, 4, none⟩ = some (.int .i64 0) ∧
      w'.cell? ⟨w.heap.size, 5, none⟩ = some (.int .i64 0) ∧ w'.cell? ⟨w.heap.size, 6, none⟩ = some (.int .i64 0) ∧ w'.cell? ⟨w.heap.size, 7, none⟩ = some (.slice none 0 0) ∧ w'.cell? ⟨w.heap.size, 8, none⟩ = some (.slice none 0 0)) ∧ ∀ i, w'.frozen? ⟨w.heap.size, i, none⟩ = false := by
  subst h
  have hc : ∀ i v, zeroTC[i]? = some v → w'.cell? ⟨w.heap.size, i, none⟩ = some v := by
    intro i v hv
    refine cell_later hb ?_
    rw [World.cell?_alloc_mark w zeroTC t (0, 0) i]; exact hv
  refine ⟨⟨hc 0 _ rfl, hc 1 _ rfl, hc 2 _ rfl, hc 3 _ rfl, hc 4 _ rfl, hc 5 _ rfl, hc 6 _ rfl, hc 7 _ rfl, hc 8 _ rfl⟩, fun i => ?_⟩
  rw [hb.frozen (by simp), World.frozen?_alloc_mark w zeroTC t 0 0 i]; simp

/-- A segment laid into the nine cells of block n. -/
@[reducible] def laidT (w : World) (n : Nat) (p : Pc) (vo vd : Value) : World :=
  ((((((((w.setCell ⟨n, 0, none⟩ (.int .i64 p.src)).setCell ⟨n, 1, none⟩ (.int .i64 p.dst)).setCell ⟨n, 2, none⟩ (.int .u32 p.seq)).setCell ⟨n, 3, none⟩ (.int .u32 p.ack)).setCell ⟨n, 4, none⟩ (.int .i64 p.flags)).setCell ⟨n, 5, none⟩ (.int .i64 p.window)).setCell ⟨n, 6, none⟩ (.int .i64 p.urgent)).setCell ⟨n, 7, none⟩ vo).setCell ⟨n, 8, none⟩ vd

theorem laidT_below {w w' : World} {n : Nat} (h : Below n w w') (p : Pc) (vo vd : Value) : Below n w (laidT w' n p vo vd) := by
  have hle : n ≤ n := Nat.le_refl _
  exact (((((((((h.setCell hle _).setCell hle _).setCell hle _).setCell hle _).setCell hle _).setCell hle _).setCell hle _).setCell hle _).setCell hle _)

theorem laidT_owns {w : World} {n base : Nat} {v : Value} {l : List Int} (h : Owns w base v l) (hn : n < base) (p : Pc) (vo vd : Value) : Owns (laidT w n p vo vd) base v l :=
  (((((((((h.store hn _).store hn _).store hn _).store hn _).store hn _).store hn _).store hn _).store hn _).store hn _)

theorem laidT_cells {w w0 w' : World} {t : TypeId} (h : w0 = w.alloc (.cells zeroTC t)) (hb : Below w0.heap.size w0 w') (p : Pc) (vo vd : Value) :
    (laidT w' w.heap.size p vo vd).cell? ⟨w.heap.size, 0, none⟩ = some (.int .i64 p.src) ∧ (laidT w' w.heap.size p vo vd).cell? ⟨w.heap.size, 1, none⟩ = some (.int .i64 p.dst) ∧ (laidT w' w.heap.size p vo vd).cell? ⟨w.heap.size, 2, none⟩ = some (.int .u32 p.seq) ∧ (laidT w' w.heap.size p vo vd).cell? ⟨w.heap.size, 3, none⟩ = some (.int .u32 p.ack) ∧ (laidT w' w.heap.size p vo vd).cell? ⟨w.heap.size, 4, none⟩ = some (.int .i64 p.flags) ∧
      (laidT w' w.heap.size p vo vd).cell? ⟨w.heap.size, 5, none⟩ = some (.int .i64 p.window) ∧ (laidT w' w.heap.size p vo vd).cell? ⟨w.heap.size, 6, none⟩ = some (.int .i64 p.urgent) ∧ (laidT w' w.heap.size p vo vd).cell? ⟨w.heap.size, 7, none⟩ = some vo ∧ (laidT w' w.heap.size p vo vd).cell? ⟨w.heap.size, 8, none⟩ = some vd := by
  obtain ⟨⟨c0, c1, c2, c3, c4, c5, c6, c7, c8⟩, -⟩ := zeroT_cells h hb
  refine ⟨?_, ?_, ?_, ?_, ?_, ?_, ?_, ?_, ?_⟩
  · simp [go_sem, c0]
  · simp [go_sem, c1]
  · simp [go_sem, c2]
  · simp [go_sem, c3]
  · simp [go_sem, c4]
  · simp [go_sem, c5]
  · simp [go_sem, c6]
  · simp [go_sem, c7]
  · simp [go_sem, c8]

set_option maxHeartbeats 2000000 in
theorem tparse_no (s d : Int) (a : Option Addr) (b off len cap : Nat) (l : List Int) (w : World) (s0 : 0 ≤ s) (s1 : s < 4294967296) (t0 : 0 ≤ d) (t1 : d < 4294967296) (ha : a = some ⟨b, off, none⟩ ∨ l = []) (hA : At w b off len cap l) (hl : len ≤ 70000) (h : ¬ parseT s d l = 0) :
    Calls Try.prog 61 #[.int .u32 s, .int .u32 d, .slice a len cap] w fun e w' => e = .returned (.tuple #[pcV Pc.zero (.slice none 0 0) (.slice none 0 0), .int .i64 (parseT s d l)]) ∧ Below w.heap.size w w' := by
  have HE : Hid (¬ parseT s d l = 0) := h
  obtain ⟨E, hEE⟩ : ∃ E, parseT s d l = E := ⟨_, rfl⟩
  have hne : (E != 0) = true := by rw [bne_iff_ne, ← hEE]; exact h
  rw [hEE]
  have HEE : Hid (parseT s d l = E) := hEE
  clear h hEE
  go_enter Try.func61, Try.ntmps61
  go_wp2_with fail
  refine (tmeas_no s d a b off len cap l _ s0 s1 t0 t1 ha (hA.later (below_alloc _ _)) hl HE.out).mono ?_
  rintro e w1 ⟨rfl, hb1⟩
  rw [HEE.out]
  obtain ⟨⟨c0, c1, c2, c3, c4, c5, c6, c7, c8⟩, hfz⟩ := zeroT_cells rfl hb1
  have bel := laidT_below (below_trans (below_alloc _ _) hb1) Pc.zero (.slice none 0 0) (.slice none 0 0)
  clear hb1
  go_wp2
  refine bodyPost_ret (v := .tuple #[pcV Pc.zero (.slice none 0 0) (.slice none 0 0), .int .i64 E]) ?_ rfl ?_
  · simp [results, Try.results61, go_sem, c0, c1, c2, c3, c4, c5, c6, c7, c8, Pc.zero]
  exact ⟨rfl, bel⟩

set_option maxHeartbeats 8000000 in
theorem tparse_own (s d : Int) (b off len cap : Nat) (l : List Int) (w : World) (s0 : 0 ≤ s) (s1 : s < 4294967296) (t0 : 0 ≤ d) (t1 : d < 4294967296) (hA : At w b off len cap l) (hl : len ≤ 70000) (g : TGood s d l) :
    Calls Try.prog 61 #[.int .u32 s, .int .u32 d, .slice (some ⟨b, off, none⟩) len cap] w fun e w' =>
      ∃ a1 k1 a2 k2, e = .returned (.tuple #[pcV (pcOf l) (.slice a1 (pcOf l).opts.length k1) (.slice a2 (pcOf l).data.length k2), .int .i64 0]) ∧ Owns w' w.heap.size (.slice a1 (pcOf l).opts.length k1) (pcOf l).opts ∧ Owns w' w.heap.size (.slice a2 (pcOf l).data.length k2) (pcOf l).data ∧ Below w.heap.size w w' := by
  have hL := hA.len
  have hc := hA.cap1
  have HG : Hid (TGood s d l) := g
  have g2 := g.b
  have g3 := g.c
  have g1 := g.a
  rw [hL] at g1 g3
  have i5 : (0 : Int) ≤ hdT l := by omega
  have i7 : hdT l ≤ (cap : Int) := by omega
  obtain ⟨V1, hsl1, ho1⟩ := slice_part b off len cap 20 (hdT l) 20 (hdT l).toNat rfl (by omega) (by omega) (by omega)
  obtain ⟨V2, hsl2, ho2⟩ := slice_from b off len cap (hdT l) (hdT l).toNat (by omega) (by omega) hc
  have HBL : Hid (isBytes l) := hA.bytes
  have HLL : Hid (l.length = len) := hL
  obtain ⟨x0, y0⟩ := w2_bd l hA.bytes 0
  obtain ⟨x2, y2⟩ := w2_bd l hA.bytes 2
  obtain ⟨x4, y4⟩ := w4_bd l hA.bytes 4
  obtain ⟨x8, y8⟩ := w4_bd l hA.bytes 8
  obtain ⟨x12, y12⟩ := w2_bd l hA.bytes 12
  obtain ⟨x14, y14⟩ := w2_bd l hA.bytes 14
  obtain ⟨x18, y18⟩ := w2_bd l hA.bytes 18
  have hfl : bits .and .i64 (w2 l 12) 255 = b1 l 13 := by
    rw [← lead_flags l hA.bytes]
    exact mask_i64 8 (by decide) (w2 l 12) x12 (by omega)
  have v0 : IntKind.i64.wrap (w2 l 0) = w2 l 0 := i64_id _ x0 (by omega)
  have v2 : IntKind.i64.wrap (w2 l 2) = w2 l 2 := i64_id _ x2 (by omega)
  have v4 : IntKind.u32.wrap (w4 l 4) = w4 l 4 := u32_id _ x4 (by omega)
  have v8 : IntKind.u32.wrap (w4 l 8) = w4 l 8 := u32_id _ x8 (by omega)
  have v12 : IntKind.i64.wrap (w2 l 12) = w2 l 12 := i64_id _ x12 (by omega)
  have v14 : IntKind.i64.wrap (w2 l 14) = w2 l 14 := i64_id _ x14 (by omega)
  have v18 : IntKind.i64.wrap (w2 l 18) = w2 l 18 := i64_id _ x18 (by omega)
  clear g hL
  go_enter Try.func61, Try.ntmps61
  go_wp2_with fail
  refine (tmeas_yes s d b off len cap l _ s0 s1 t0 t1 (hA.later (below_alloc _ _)) hl HG.out).mono ?_
  rintro e w1 ⟨rfl, hb1⟩
  have hb0 : Below w.heap.size w w1 := below_trans (below_alloc _ _) hb1
  have hA1 := hA.later hb0
  have HW : Hid (Below (w.alloc (.cells zeroTC 69)).heap.size (w.alloc (.cells zeroTC 69)) w1) := hb1
  have hsz := hb1.size
  simp only [World.size_alloc] at hsz
  clear hb1
  go_wp2_with fail
  go_region_held3 (fun w' => True) (first | trivial | go_keep)
    (first
      | (go_at_call_of 71 (Value.int .i64 0); refine (tnumber2 b off len cap l 0 0 _ (hA1.later (Below.refl _ _).drew) rfl (by omega)).mono ?_; rintro e w2' ⟨rfl, hw2⟩; have hw2 := hw2.symm; subst hw2)
      | (go_at_call_of 71 (Value.int .i64 12); refine (tnumber2 b off len cap l 12 12 _ (hA1.later (Below.refl _ _).drew) rfl (by omega)).mono ?_; rintro e w2' ⟨rfl, hw2⟩; have hw2 := hw2.symm; subst hw2)
      | (go_at_call_of 71 (Value.int .i64 14); refine (tnumber2 b off len cap l 14 14 _ (hA1.later (Below.refl _ _).drew) rfl (by omega)).mono ?_; rintro e w2' ⟨rfl, hw2⟩; have hw2 := hw2.symm; subst hw2)
      | (go_at_call_of 71 (Value.int .i64 18); refine (tnumber2 b off len cap l 18 18 _ (hA1.later (Below.refl _ _).drew) rfl (by omega)).mono ?_; rintro e w2' ⟨rfl, hw2⟩; have hw2 := hw2.symm; subst hw2)
      | (go_at_call_of 71 (Value.int .i64 8); refine (tnumber4 b off len cap l 8 8 _ (hA1.later (Below.refl _ _).drew) rfl (by omega)).mono ?_; rintro e w2' ⟨rfl, hw2⟩; have hw2 := hw2.symm; subst hw2)
      | (go_at_call_of 71 (Value.int .i64 2); refine (tnumber2 b off len cap l 2 2 _ (hA1.later (Below.refl _ _).drew) rfl (by omega)).mono ?_; rintro e w2' ⟨rfl, hw2⟩; have hw2 := hw2.symm; subst hw2)
      | (go_at_call_of 71 (Value.int .i64 4); refine (tnumber4 b off len cap l 4 4 _ (hA1.later (Below.refl _ _).drew) rfl (by omega)).mono ?_; rintro e w2' ⟨rfl, hw2⟩; have hw2 := hw2.symm; subst hw2)
      | (go_at_call_of 58 V1; refine (clone_part V1 b off len cap 20 (hdT l).toNat l _ ho1 (hA1.later (Below.refl _ _).drew) (by omega) (by omega) (by omega)).mono ?_; rintro e w3 ⟨v1, rfl, hv1, hb3'⟩; obtain ⟨a1, k1, rfl⟩ := Bts.shapeT (l := (pcOf l).opts) (hv1.bts (isBytes_part l HBL.out _ _)); have hb3 : Below w1.heap.size w1 w3 := below_trans (Below.refl _ _).drew hb3')
      | (go_at_call_of 58 V2; refine (clone_part V2 b off len cap (hdT l).toNat len l _ ho2 (hA1.later hb3) (by omega) (by omega) (by omega)).mono ?_; rintro e w4' ⟨v2, rfl, hv2, hb4'⟩; rw [← HLL.out] at hv2; obtain ⟨a2, k2, rfl⟩ := Bts.shapeT (l := (pcOf l).data) (hv2.bts (isBytes_part l HBL.out _ _)); have hb4 := below_trans hb3 hb4'; obtain ⟨⟨c0, c1, c2, c3, c4, c5, c6, c7, c8⟩, hfz⟩ := zeroT_cells rfl (below_trans HW.out hb4)))
  have hlt : w.heap.size < w1.drew.heap.size := by show w.heap.size < w1.heap.size; omega
  have hlt2 : w.heap.size < w3.heap.size := by have := hb3.size; omega
  have hB1 := laidT_owns (hv1.later hb4') hlt (pcOf l) (.slice a1 (pcOf l).opts.length k1) (.slice a2 (pcOf l).data.length k2)
  have hB2 := laidT_owns hv2 hlt2 (pcOf l) (.slice a1 (pcOf l).opts.length k1) (.slice a2 (pcOf l).data.length k2)
  have bel := laidT_below (below_trans hb0 hb4) (pcOf l) (.slice a1 (pcOf l).opts.length k1) (.slice a2 (pcOf l).data.length k2)
  obtain ⟨r0, r1, r2, r3, r4, r5, r6, r7, r8⟩ := laidT_cells rfl (below_trans HW.out hb4) (pcOf l) (.slice a1 (pcOf l).opts.length k1) (.slice a2 (pcOf l).data.length k2)
  obtain ⟨W, hW⟩ : ∃ W, W = laidT w4' w.heap.size (pcOf l) (.slice a1 (pcOf l).opts.length k1) (.slice a2 (pcOf l).data.length k2) := ⟨_, rfl⟩
  have hW' : (((((((((w4'.setCell ⟨w.heap.size, 0, none⟩ (.int .i64 (w2 l 0))).setCell ⟨w.heap.size, 1, none⟩ (.int .i64 (w2 l 2))).setCell ⟨w.heap.size, 2, none⟩ (.int .u32 (w4 l 4))).setCell ⟨w.heap.size, 3, none⟩ (.int .u32 (w4 l 8))).setCell ⟨w.heap.size, 4, none⟩ (.int .i64 (b1 l 13))).setCell ⟨w.heap.size, 5, none⟩ (.int .i64 (w2 l 14))).setCell ⟨w.heap.size, 6, none⟩ (.int .i64 (w2 l 18))).setCell ⟨w.heap.size, 7, none⟩ (.slice a1 (pcOf l).opts.length k1)).setCell ⟨w.heap.size, 8, none⟩ (.slice a2 (pcOf l).data.length k2)) = W := hW.symm
  rw [hW']
  rw [← hW] at hB1 hB2 bel r0 r1 r2 r3 r4 r5 r6 r7 r8
  clear hW hW' c0 c1 c2 c3 c4 c5 c6 c7 c8 hfz hv1 hv2 hb3 hb3' hb4 hb4' hb0 hA hA1 hsl1 ho1 hsl2 ho2 HW
  go_wp2
  refine bodyPost_ret (v := .tuple #[pcV (pcOf l) (.slice a1 (pcOf l).opts.length k1) (.slice a2 (pcOf l).data.length k2), .int .i64 0]) ?_ rfl ?_
  · simp [results, Try.results61, go_sem, r0, r1, r2, r3, r4, r5, r6, r7, r8]
  exact ⟨_, _, _, _, rfl, hB1.low (Nat.le_of_lt hlt), hB2.low (Nat.le_of_lt hlt2), bel⟩

theorem tparse_ok (s d : Int) (b off len cap : Nat) (l : List Int) (w : World) (s0 : 0 ≤ s) (s1 : s < 4294967296) (t0 : 0 ≤ d) (t1 : d < 4294967296) (hA : At w b off len cap l) (hl : len ≤ 70000) (g : TGood s d l) :
    Calls Try.prog 61 #[.int .u32 s, .int .u32 d, .slice (some ⟨b, off, none⟩) len cap] w fun e w' =>
      ∃ a1 k1 a2 k2, e = .returned (.tuple #[pcV (pcOf l) (.slice a1 (pcOf l).opts.length k1) (.slice a2 (pcOf l).data.length k2), .int .i64 0]) ∧ Bts w' (.slice a1 (pcOf l).opts.length k1) (pcOf l).opts ∧ Bts w' (.slice a2 (pcOf l).data.length k2) (pcOf l).data ∧ Below w.heap.size w w' := by
  refine (tparse_own s d b off len cap l w s0 s1 t0 t1 hA hl g).mono ?_
  rintro e w' ⟨a1, k1, a2, k2, rfl, ho, hd, hb⟩
  exact ⟨a1, k1, a2, k2, rfl, ho.bts (isBytes_part l hA.bytes _ _), hd.bts (isBytes_part l hA.bytes _ _), hb⟩

theorem tparse_ok' (s d : Int) (b off len cap : Nat) (l : List Int) (p : Pc) (w : World) (s0 : 0 ≤ s) (s1 : s < 4294967296) (t0 : 0 ≤ d) (t1 : d < 4294967296) (hA : At w b off len cap l) (hl : len ≤ 70000) (g : TGood s d l) (hp : pcOf l = p) :
    Calls Try.prog 61 #[.int .u32 s, .int .u32 d, .slice (some ⟨b, off, none⟩) len cap] w fun e w' =>
      ∃ a1 k1 a2 k2, e = .returned (.tuple #[pcV p (.slice a1 p.opts.length k1) (.slice a2 p.data.length k2), .int .i64 0]) ∧ Bts w' (.slice a1 p.opts.length k1) p.opts ∧ Bts w' (.slice a2 p.data.length k2) p.data ∧ Below w.heap.size w w' := by
  subst hp; exact tparse_ok s d b off len cap l w s0 s1 t0 t1 hA hl g
end Go.Proofs.Ytdejjokgchbgnaa

namespace Go.Proofs.Ytdejjokgchbgnaa
open Go.RowKit

/-- Values laid into the cells of block n, from k on. -/
def layN (w : World) (n : Nat) : Nat → List Value → World
  | _, [] => w
  | k, v :: vs => layN (w.setCell ⟨n, k, none⟩ v) n (k + 1) vs

theorem layN_below {w' : World} (n : Nat) (vs : List Value) : ∀ (k : Nat) (w : World) (base : Nat), base ≤ n → Below base w' w → Below base w' (layN w n k vs) := by
  induction vs with
  | nil => intro k w base _ h; exact h
  | cons v vs ih => intro k w base hb h; exact ih (k + 1) _ base hb (h.setCell hb _)

theorem layN_owns (n base : Nat) (v : Value) (l : List Int) (hn : n < base) (vs : List Value) : ∀ (k : Nat) (w : World), Owns w base v l → Owns (layN w n k vs) base v l := by
  induction vs with
  | nil => intro k w h; exact h
  | cons x vs ih => intro k w h; exact ih (k + 1) _ (h.store hn _)

theorem layN_old (n : Nat) (vs : List Value) : ∀ (k j : Nat) (w : World), j < k → (layN w n k vs).cell? ⟨n, j, none⟩ = w.cell? ⟨n, j, none⟩ := by
  induction vs with
  | nil => intro k j w _; rfl
  | cons x vs ih =>
    intro k j w h
    show (layN (w.setCell ⟨n, k, none⟩ x) n (k + 1) vs).cell? ⟨n, j, none⟩ = _
    rw [ih (k + 1) j _ (by omega)]
    have hne : ¬ k = j := by omega
    simp [go_sem]
    try omega

theorem layN_cell (n : Nat) (vs : List Value) : ∀ (k i : Nat) (w : World) (u v : Value), vs[i]? = some v → w.cell? ⟨n, k + i, none⟩ = some u → (layN w n k vs).cell? ⟨n, k + i, none⟩ = some v := by
  induction vs with
  | nil => intro k i w u v h; simp at h
  | cons x vs ih =>
    intro k i w u v h hu
    show (layN (w.setCell ⟨n, k, none⟩ x) n (k + 1) vs).cell? ⟨n, k + i, none⟩ = _
    cases i with
    | zero =>
      simp at h
      subst h
      rw [Nat.add_zero] at hu
      show (layN (w.setCell ⟨n, k, none⟩ x) n (k + 1) vs).cell? ⟨n, k, none⟩ = some x
      rw [layN_old n vs (k + 1) k _ (by omega)]
      simp [go_sem, hu]
    | succ i =>
      have e : k + (i + 1) = k + 1 + i := by omega
      rw [e] at hu ⊢
      have hne : ¬ k = k + 1 + i := by omega
      exact ih (k + 1) i _ u v (by simpa using h) (by simp [go_sem, hu])

@[reducible] def frC (p : Dg) (vo vb : Value) (r : Rs) : Array Value :=
  #[.int .i64 p.tos, .int .i64 p.id, .bool p.df, .bool p.mf, .int .i64 p.off, .int .i64 p.ttl, .int .i64 p.proto, .int .u32 p.src, .int .u32 p.dst, vo, vb, .int .i64 r.kind, .int .u32 p.src, .int .i64 r.fp, .int .u32 p.dst, .int .i64 r.tp, .int .i64 r.flags, .int .i64 r.inner.proto, .int .u32 r.inner.sa, .int .i64 r.inner.sp, .int .u32 r.inner.da, .int .i64 r.inner.dp]

@[reducible] def frL (p : Dg) (vo vb : Value) (r : Rs) : List Value :=
  [.int .i64 p.tos, .int .i64 p.id, .bool p.df, .bool p.mf, .int .i64 p.off, .int .i64 p.ttl, .int .i64 p.proto, .int .u32 p.src, .int .u32 p.dst, vo, vb, .int .i64 r.kind, .int .u32 p.src, .int .i64 r.fp, .int .u32 p.dst, .int .i64 r.tp, .int .i64 r.flags, .int .i64 r.inner.proto, .int .u32 r.inner.sa, .int .i64 r.inner.sp, .int .u32 r.inner.da, .int .i64 r.inner.dp]

@[reducible] def frV (p : Dg) (vo vb : Value) (r : Rs) : Value :=
  .agg #[.int .i64 p.tos, .int .i64 p.id, .bool p.df, .bool p.mf, .int .i64 p.off, .int .i64 p.ttl, .int .i64 p.proto, .int .u32 p.src, .int .u32 p.dst, vo, vb, .int .i64 r.kind, .int .u32 p.src, .int .i64 r.fp, .int .u32 p.dst, .int .i64 r.tp, .int .i64 r.flags, .int .i64 r.inner.proto, .int .u32 r.inner.sa, .int .i64 r.inner.sp, .int .u32 r.inner.da, .int .i64 r.inner.dp]

@[reducible] def zeroFC : Array Value :=
  #[.int .i64 0, .int .i64 0, .bool false, .bool false, .int .i64 0, .int .i64 0, .int .i64 0, .int .u32 0, .int .u32 0, .slice none 0 0, .slice none 0 0, .int .i64 0, .int .u32 0, .int .i64 0, .int .u32 0, .int .i64 0, .int .i64 0, .int .i64 0, .int .u32 0, .int .i64 0, .int .u32 0, .int .i64 0]

/-- The empty frame. -/
@[reducible] def zeroFV : Value := .agg zeroFC

/-- The cells of a frame that a world has in block n, all of them to be written. -/
structure FC (w : World) (n : Nat) (C : Array Value) : Prop where
  c : ∀ i v, C[i]? = some v → w.cell? ⟨n, i, none⟩ = some v
  f : ∀ i, w.frozen? ⟨n, i, none⟩ = false

theorem fc_new {w w' : World} {C : Array Value} {t : TypeId} {n : Nat} (hn : n = w.heap.size) (hb : Below (w.alloc (.cells C t)).heap.size (w.alloc (.cells C t)) w') : FC w' n C := by
  subst hn
  refine ⟨fun i v hv => box_cell hb i v hv, fun i => ?_⟩
  rw [hb.frozen (by simp), World.frozen?_alloc_mark w C t 0 0 i]; simp

theorem FC.later {w w' : World} {n : Nat} {C : Array Value} (h : FC w n C) (hn : n < w.heap.size) (hb : Below w.heap.size w w') : FC w' n C :=
  ⟨fun i v hv => cell_later hb (h.c i v hv), fun i => by rw [hb.frozen hn]; exact h.f i⟩

theorem FC.drewN {w : World} {n k : Nat} {C : Array Value} (h : FC w n C) : FC (w.drewN k) n C := ⟨h.c, h.f⟩

theorem fr_laid {w : World} {n : Nat} {C : Array Value} (h : FC w n C) (hC : C.size = 22) (p : Dg) (vo vb : Value) (r : Rs) (i : Nat) (v : Value) (hv : (frL p vo vb r)[i]? = some v) : (layN w n 0 (frL p vo vb r)).cell? ⟨n, i, none⟩ = some v := by
  have hi : i < 22 := by
    rcases Nat.lt_or_ge i 22 with k | k
    · exact k
    · rw [List.getElem?_eq_none (by show 22 ≤ i; exact k)] at hv; cases hv
  have := layN_cell n (frL p vo vb r) 0 i w (C[i]'(by omega)) v hv (by rw [Nat.zero_add]; exact h.c i _ (Array.getElem?_eq_getElem _))
  rwa [Nat.zero_add] at this
end Go.Proofs.Ytdejjokgchbgnaa

namespace Go.Proofs.Ytdejjokgchbgnaa
open Go.RowKit

theorem infoF : (Try.prog.info? 37).map (·.size) = some 22 := by kernel_rfl

theorem FC.there {w : World} {n : Nat} {C : Array Value} (h : FC w n C) (hC : C.size = 22) : w.there n 0 22 := fun j hj => by
  rw [Nat.zero_add]
  exact ⟨by rw [h.c j _ (Array.getElem?_eq_getElem (by omega))]; rfl, h.f j⟩

/-- The store of a whole frame, as one step of the walk. -/
theorem store_fr {ops : Array Oper} {rest : List Oper} {op : Oper} {a : Act} {w : World} {Q : Exit → Act → World → Prop} (hgd : op.guard = none) (x y : Operand) (ho : op.op = .store 37 x y)
    (n : Nat) (C : Array Value) (hx : a.eval x = .pointer (some ⟨n, 0, none⟩)) (hy : a.eval y = .agg C) (ht : w.there n 0 22) (hC : C.size = 22) (h1 : C.all (·.oneCell') = true)
    (h : wpList Try.prog ops Q rest (a.put op.dst undef) (w.setCells n 0 C.toList)) : wpList Try.prog ops Q (op :: rest) a w :=
  wpList_store_mid hgd 37 x y ho n 0 C hx hy (by rw [hC]; exact ht) (by rw [hC]; exact infoF) h1 h

theorem setCells_below {w' : World} (n : Nat) (vs : List Value) : ∀ (k : Nat) (w : World) (base : Nat), base ≤ n → Below base w' w → Below base w' (w.setCells n k vs) := by
  induction vs with
  | nil => intro k w base _ h; exact h
  | cons v vs ih => intro k w base hb h; rw [World.setCells]; exact ih (k + 1) _ base hb (h.setCell hb _)

theorem setCells_owns (n base : Nat) (v : Value) (l : List Int) (hn : n < base) (vs : List Value) : ∀ (k : Nat) (w : World), Owns w base v l → Owns (w.setCells n k vs) base v l := by
  induction vs with
  | nil => intro k w h; exact h
  | cons x vs ih => intro k w h; rw [World.setCells]; exact ih (k + 1) _ (h.store hn _)

theorem oneFr (p : Dg) (ao ab : Option Addr) (no nb co cb : Nat) (r : Rs) : (frC p (.slice ao no co) (.slice ab nb cb) r).all (·.oneCell') = true := by
  simp [Value.oneCell']

theorem oneZ : (zeroFC).all (·.oneCell') = true := by
  simp [Value.oneCell']

theorem load_fr {W : World} {n : Nat} (L : List Value) (hr : W.rangeAt n 0 L) (hL : L.length = 22) : (loadVar 37 ⟨n, 0, none⟩).run Try.prog W = .ok (.agg L.toArray) W :=
  run_loadVar_mid W n 0 37 L _ hr Try.underlying37 rfl (by rw [hL]; exact infoF)

theorem range_set {w : World} {n : Nat} (L : List Value) (hL : L.length = 22) (h : w.there n 0 22) : (w.setCells n 0 L).rangeAt n 0 L := World.rangeAt_setCells_same w n 0 L (by rw [hL]; exact h)

theorem results_fr1 {fn : Func} {t : Tmp} (h : fn.results = #[.cell t 37]) (tmps : Array Value) (W : World) (n : Nat) (L : List Value) (ht : tmps.getD t undef = .pointer (some ⟨n, 0, none⟩)) (hr : W.rangeAt n 0 L) (hL : L.length = 22) :
    (results fn tmps).run Try.prog W = .ok (.agg L.toArray) W := by
  have := load_fr L hr hL
  have ht' : tmps[t]?.getD undef = .pointer (some ⟨n, 0, none⟩) := by simpa using ht
  simp [results, h, ht', asAddr, this]

theorem results_fr2 {fn : Func} {t u : Tmp} (h : fn.results = #[.cell t 37, .tmp u]) (tmps : Array Value) (W : World) (n : Nat) (L : List Value) (ht : tmps.getD t undef = .pointer (some ⟨n, 0, none⟩)) (hr : W.rangeAt n 0 L) (hL : L.length = 22) :
    (results fn tmps).run Try.prog W = .ok (.tuple #[.agg L.toArray, tmps.getD u undef]) W := by
  have := load_fr L hr hL
  have ht' : tmps[t]?.getD undef = .pointer (some ⟨n, 0, none⟩) := by simpa using ht
  simp [results, h, ht', asAddr, this]

/-- The making of a frame's variable, as one step of the walk. -/
theorem alloc_fr {ops : Array Oper} {rest : List Oper} {op : Oper} {a : Act} {w : World} {Q : Exit → Act → World → Prop} (hgd : op.guard = none) (ho : op.op = .alloc 37)
    (h : wpList Try.prog ops Q rest (a.put op.dst (.pointer (some ⟨w.heap.size, 0, none⟩))) (w.alloc (.cells zeroFC 37))) : wpList Try.prog ops Q (op :: rest) a w :=
  wpList_plain hgd fun _ hK => by
    have hk := hK _ _ h
    unfold Oper.wp execOp
    simp only [ho]
    simp [go_sem]
    exact hk

/-- The load of a whole frame, as one step of the walk. -/
theorem load_step {ops : Array Oper} {rest : List Oper} {op : Oper} {a : Act} {w : World} {Q : Exit → Act → World → Prop} (hgd : op.guard = none) (x : Operand) (ho : op.op = .load 37 x)
    (n : Nat) (hx : a.eval x = .pointer (some ⟨n, 0, none⟩)) (L : List Value) (hr : w.rangeAt n 0 L) (hL : L.length = 22)
    (h : wpList Try.prog ops Q rest (a.put op.dst (.agg L.toArray)) w) : wpList Try.prog ops Q (op :: rest) a w :=
  wpList_load_mid hgd 37 x ho n 0 hx L _ hr Try.underlying37 rfl (by rw [hL]; exact infoF) h

theorem FC.range {w : World} {n : Nat} {C : Array Value} (h : FC w n C) : w.rangeAt n 0 C.toList := fun j v hv => by
  rw [Nat.zero_add]
  exact h.c j v (by simpa using hv)

theorem FC.set {w : World} {n : Nat} {C : Array Value} (h : FC w n C) (i : Nat) (hi : i < C.size) (v : Value) : FC (w.setCell ⟨n, i, none⟩ v) n (C.set i v hi) := by
  refine ⟨fun j u hj => ?_, fun j => ?_⟩
  · have hi' := h.c i _ (Array.getElem?_eq_getElem hi)
    by_cases e : i = j
    · subst e
      simp at hj
      subst hj
      simp [go_sem, hi']
    · rw [Array.getElem?_set_ne hi e] at hj
      have hj' := h.c j u hj
      simp [go_sem, hj']
  · have := h.f j
    simp [go_sem, this]

theorem FC.far {w : World} {n m i : Nat} {C : Array Value} {v : Value} (h : FC w n C) (hn : ¬ m = n) : FC (w.setCell ⟨m, i, none⟩ v) n C := by
  refine ⟨fun j u hj => ?_, fun j => ?_⟩
  · rw [World.cell?_setCell_far w ⟨m, i, none⟩ ⟨n, j, none⟩ v hn]; exact h.c j u hj
  · have := h.f j
    simp [go_sem, this]

theorem FC.laid {w : World} {n : Nat} {C : Array Value} (h : FC w n C) (hC : C.size = 22) (D : Array Value) (hD : D.size = 22) : FC (w.setCells n 0 D.toList) n D := by
  have hr := range_set D.toList (by simpa using hD) (h.there hC)
  refine ⟨fun i v hv => ?_, fun i => ?_⟩
  · have := hr i v (by simpa using hv)
    rwa [Nat.zero_add] at this
  · rw [World.frozen?_setCells]; exact h.f i
end Go.Proofs.Ytdejjokgchbgnaa

namespace Go.Proofs.Ytdejjokgchbgnaa
open Go.RowKit
attribute [local go_sem ↓] Go.wp_at_zero Go.wp_at_succ

set_option maxHeartbeats 2000000 in
theorem frame_any (p : Dg) (ao ab : Option Addr) (no nb co cb : Nat) (k f t : Int) (w : World) :
    Calls Try.prog 60 #[ipV p (.slice ao no co) (.slice ab nb cb), .int .i64 k, .int .i64 f, .int .i64 t] w fun e w' => e = .returned (frV p (.slice ao no co) (.slice ab nb cb) ⟨0, k, f, t, 0, Inn.zero⟩) ∧ Below w.heap.size w w' := by
  go_enter Try.func60, Try.ntmps60
  go_wp2_with (refine store_fr rfl (.tmp 8) (.tmp 22) rfl (w.heap.size + 1) (frC p (.slice ao no co) (.slice ab nb cb) ⟨0, k, f, t, 0, Inn.zero⟩) rfl rfl ?ht rfl ?h1 ?_)
  case ht => exact (fc_new (by simp) (Below.refl _ _)).there rfl
  case h1 => exact oneFr _ _ _ _ _ _ _ _
  have hr := range_set (frL p (.slice ao no co) (.slice ab nb cb) ⟨0, k, f, t, 0, Inn.zero⟩) rfl (FC.there (fc_new (n := w.heap.size + 1) (w := w.alloc (.cells (ipC p (.slice ao no co) (.slice ab nb cb)) 65)) (C := zeroFC) (t := 37) (by simp) (Below.refl _ _)) rfl)
  refine bodyPost_ret (results_fr1 rfl _ _ (w.heap.size + 1) _ rfl hr rfl) rfl ?_
  exact ⟨rfl, setCells_below _ _ _ _ _ (by simp) (below_trans (below_alloc _ _) (below_alloc _ _))⟩

/-- The reader's box. -/
theorem ip_box {w w' : World} {p : Dg} {vo vb : Value} {t : TypeId} (hb : Below (w.alloc (.cells (ipC p vo vb) t)).heap.size (w.alloc (.cells (ipC p vo vb) t)) w') :
    w'.cell? ⟨w.heap.size, 0, none⟩ = some (.int .i64 p.tos) ∧ w'.cell? ⟨w.heap.size, 1, none⟩ = some (.int .i64 p.id) ∧ w'.cell? ⟨w.heap.size, 2, none⟩ = some (.bool p.df) ∧ w'.cell? ⟨w.heap.size, 3, none⟩ = some (.bool p.mf) ∧
    w'.cell? ⟨w.heap.size, 4, none⟩ = some (.int .i64 p.off) ∧ w'.cell? ⟨w.heap.size, 5, none⟩ = some (.int .i64 p.ttl) ∧ w'.cell? ⟨w.heap.size, 6, none⟩ = some (.int .i64 p.proto) ∧ w'.cell? ⟨w.heap.size, 7, none⟩ = some (.int .u32 p.src) ∧
    w'.cell? ⟨w.heap.size, 8, none⟩ = some (.int .u32 p.dst) ∧ w'.cell? ⟨w.heap.size, 9, none⟩ = some vo ∧ w'.cell? ⟨w.heap.size, 10, none⟩ = some vb :=
  ⟨box_cell hb 0 _ rfl, box_cell hb 1 _ rfl, box_cell hb 2 _ rfl, box_cell hb 3 _ rfl, box_cell hb 4 _ rfl, box_cell hb 5 _ rfl, box_cell hb 6 _ rfl, box_cell hb 7 _ rfl, box_cell hb 8 _ rfl, box_cell hb 9 _ rfl, box_cell hb 10 _ rfl⟩

set_option maxHeartbeats 4000000 in
theorem datagram_ok (p : Dg) (ao : Option Addr) (no co b off nb cb : Nat) (w : World) (k : p.Ok) (hA : At w b off nb cb p.body) (hl : nb ≤ 70000) (g : UGood p.src p.dst p.body) :
    Calls Try.prog 43 #[ipV p (.slice ao no co) (.slice (some ⟨b, off, none⟩) nb cb)] w fun e w' =>
      e = .returned (.tuple #[frV p (.slice ao no co) (.slice (some ⟨b, off, none⟩) nb cb) ⟨0, 1, w2 p.body 0, w2 p.body 2, 0, Inn.zero⟩, .int .i64 0]) ∧ Below w.heap.size w w' := by
  have hb1 := below_alloc w (.cells (ipC p (.slice ao no co) (.slice (some ⟨b, off, none⟩) nb cb)) 65)
  have hb2 := below_alloc (w.alloc (.cells (ipC p (.slice ao no co) (.slice (some ⟨b, off, none⟩) nb cb)) 65)) (.cells zeroFC 37)
  have hu := uparse_ok p.src p.dst b off nb cb p.body _ k.src0 k.src1 k.dst0 k.dst1 (hA.later (below_trans hb1 hb2)) hl g
  clear hA g
  go_enter Try.func43, Try.ntmps43
  go_wp2_with fail
  refine hu.mono ?_
  rintro e w3 ⟨a1, k1, rfl, -, hb3⟩
  have F3 := fc_new (n := w.heap.size + 1) (by simp) hb3
  obtain ⟨c0, c1, c2, c3, c4, c5, c6, c7, c8, c9, c10⟩ := ip_box (below_trans hb2 hb3)
  have hs3 := hb3.size
  simp only [World.size_alloc] at hs3
  have bel3 := below_trans (below_trans hb1 hb2) hb3
  have q1 : w.heap.size < w3.heap.size := by omega
  have q2 : ¬ (w.heap.size = w3.heap.size) := by omega
  clear hu hb1 hb2 hb3
  go_wp2_with fail
  refine (frame_any p ao (some ⟨b, off, none⟩) no nb co cb 1 (w2 p.body 0) (w2 p.body 2) _).mono ?_
  rintro e w4 ⟨rfl, hb4⟩
  have hb34 := below_trans (below_alloc _ _) hb4
  have F4 := F3.later (by omega) hb34
  have bel4 := below_trans bel3 hb34
  clear c0 c1 c2 c3 c4 c5 c6 c7 c8 c9 c10 F3 bel3 hb4 hb34
  go_wp2_with (refine store_fr rfl (.tmp 2) (.tmp 29) rfl (w.heap.size + 1) (frC p (.slice ao no co) (.slice (some ⟨b, off, none⟩) nb cb) ⟨0, 1, w2 p.body 0, w2 p.body 2, 0, Inn.zero⟩) rfl rfl ?ht rfl ?h1 ?_)
  case ht => exact F4.there rfl
  case h1 => exact oneFr _ _ _ _ _ _ _ _
  refine bodyPost_ret (results_fr2 rfl _ _ (w.heap.size + 1) _ rfl (range_set (frL p (.slice ao no co) (.slice (some ⟨b, off, none⟩) nb cb) ⟨0, 1, w2 p.body 0, w2 p.body 2, 0, Inn.zero⟩) rfl (F4.there rfl)) rfl) rfl ?_
  exact ⟨rfl, setCells_below _ _ _ _ _ (by omega) bel4⟩

set_option maxHeartbeats 4000000 in
theorem datagram_no (p : Dg) (ao ab : Option Addr) (no co b off nb cb : Nat) (w : World) (k : p.Ok) (ha : ab = some ⟨b, off, none⟩ ∨ p.body = []) (hA : At w b off nb cb p.body) (hl : nb ≤ 70000) (g : ¬ parseU p.src p.dst p.body = 0) :
    Calls Try.prog 43 #[ipV p (.slice ao no co) (.slice ab nb cb)] w fun e w' =>
      e = .returned (.tuple #[zeroFV, .int .i64 (whyI (parseU p.src p.dst p.body))]) ∧ Below w.heap.size w w' := by
  have hb1 := below_alloc w (.cells (ipC p (.slice ao no co) (.slice ab nb cb)) 65)
  have hb2 := below_alloc (w.alloc (.cells (ipC p (.slice ao no co) (.slice ab nb cb)) 65)) (.cells zeroFC 37)
  have hu := uparse_no p.src p.dst ab b off nb cb p.body _ k.src0 k.src1 k.dst0 k.dst1 ha (hA.later (below_trans hb1 hb2)) hl g
  have hne : (parseU p.src p.dst p.body != 0) = true := by rw [bne_iff_ne]; exact g
  clear hA g
  go_enter Try.func43, Try.ntmps43
  go_wp2_with fail
  refine hu.mono ?_
  rintro e w3 ⟨rfl, hb3⟩
  have F3 := fc_new (n := w.heap.size + 1) (by simp) hb3
  have hs3 := hb3.size
  simp only [World.size_alloc] at hs3
  have bel3 := below_trans (below_trans hb1 hb2) hb3
  clear hu hb1 hb2 hb3
  go_wp2_with fail
  refine (whyOf_any _ _).mono ?_
  rintro e w4 ⟨rfl, rfl⟩
  have F4 := F3.later (by omega) (below_alloc w3 (.cells (udC Ud.zero (.slice none 0 0)) 49))
  have bel4 := below_trans bel3 (below_alloc w3 (.cells (udC Ud.zero (.slice none 0 0)) 49))
  go_wp2_with (refine store_fr rfl (.tmp 2) (.tmp 21) rfl (w.heap.size + 1) zeroFC rfl rfl ?ht rfl ?h1 ?_)
  case ht => exact F4.there rfl
  case h1 => exact oneZ
  refine bodyPost_ret (results_fr2 rfl _ _ (w.heap.size + 1) _ rfl (range_set zeroFC.toList rfl (F4.there rfl)) rfl) rfl ?_
  exact ⟨rfl, setCells_below _ _ _ _ _ (by omega) bel4⟩
end Go.Proofs.Ytdejjokgchbgnaa

namespace Go.Proofs.Ytdejjokgchbgnaa
open Go.RowKit
attribute [local go_sem ↓] Go.wp_at_zero Go.wp_at_succ

/-- How a protocol is read. -/
def wayF (x : Int) : Nat := if x = 17 then 43 else if x = 6 then 44 else if x = 1 then 45 else 46

theorem way_any (x : Int) (w : World) : Calls Try.prog 28 #[.int .i64 x] w fun e w' => e = .returned (.func (.func (wayF x)) #[] #[]) ∧ w' = w := by
  by_cases h17 : x = 17
  · subst h17
    go_enter Try.func28, Try.ntmps28
    go_wp2
    go_ret
    exact ⟨rfl, rfl⟩
  by_cases h6 : x = 6
  · subst h6
    go_enter Try.func28, Try.ntmps28
    go_wp2
    go_ret
    exact ⟨rfl, rfl⟩
  by_cases h1 : x = 1
  · subst h1
    go_enter Try.func28, Try.ntmps28
    go_wp2
    go_ret
    exact ⟨rfl, rfl⟩
  have E : Hid (wayF x = 46) := by show wayF x = _; unfold wayF; rw [if_neg h17, if_neg h6, if_neg h1]
  have g1 : (x == 17) = false := by simpa using h17
  have g2 : (x == 6) = false := by simpa using h6
  have g3 : (x == 1) = false := by simpa using h1
  clear h17 h6 h1
  go_enter Try.func28, Try.ntmps28
  go_wp2
  go_ret
  exact ⟨by rw [E.out]; rfl, rfl⟩

set_option maxHeartbeats 2000000 in
theorem other_any (p : Dg) (ao ab : Option Addr) (no co nb cb : Nat) (w : World) :
    Calls Try.prog 46 #[ipV p (.slice ao no co) (.slice ab nb cb)] w fun e w' => e = .returned (.tuple #[zeroFV, .int .i64 4]) ∧ Below w.heap.size w w' := by
  have F := fc_new (w := w.alloc (.cells (ipC p (.slice ao no co) (.slice ab nb cb)) 65)) (n := w.heap.size + 1) (C := zeroFC) (t := 37) (by simp) (Below.refl _ _)
  go_enter Try.func46, Try.ntmps46
  go_wp2_with (refine store_fr rfl (.tmp 2) (.tmp 4) rfl (w.heap.size + 1) zeroFC rfl rfl (F.there rfl) rfl oneZ ?_)
  refine bodyPost_ret (results_fr2 rfl _ _ (w.heap.size + 1) _ rfl (range_set zeroFC.toList rfl (F.there rfl)) rfl) rfl ?_
  exact ⟨rfl, setCells_below _ _ _ _ _ (by simp) (below_trans (below_alloc _ _) (below_alloc _ _))⟩
end Go.Proofs.Ytdejjokgchbgnaa
