/- Rows of bytes: parts, what is laid, what is appended. -/
import Derived.Test.YtafkkehcacdodaaGreatPut
import Derived.Test.YtafkkehcacdodaaGreatNum
import Derived.Deep.OwnRows
import Derived.Deep.RegionHeld3
set_option maxRecDepth 100000
namespace Go.Proofs.YtafkkehcacdodaaGreat
open Go.RowKit

/-- append, where its run is known. -/
theorem wpl_append_run {P : Program} {w : World} {ops : Array Oper} {rest : List Oper} {o : Oper} {a : Act} {Q : Exit → Act → World → Prop} (hgd : o.guard = none) (s x : Operand) (t : TypeId)
    (ho : o.op = .call { callee := .builtin .append, args := #[s, x], argTypes := #[t, t] }) (v u : Value) (hs : a.eval s = v) (hx : a.eval x = u) {v' : Value} {w' : World}
    (hr : (Builtin.append_ #[t, t] o.type #[v, u]).run P w = .ok v' w') (h : wpList P ops Q rest (a.put o.dst v') w') : wpList P ops Q (o :: rest) a w :=
  wpList_plain hgd fun _ hK => by
    unfold Oper.wp execOp
    simp only [ho, resolve, invoke, builtin, Sem.run_bind, Sem.run_pure, Result.andThen_ok, List.map_toArray, List.map_cons, List.map_nil, hs, hx, hr]
    exact hK _ _ h

/-- Bytes that a slice shows, with the head of the row. -/
structure At (w : World) (b off len cap : Nat) (l : List Int) : Prop where
  cap1 : len ≤ cap
  cap2 : cap ≤ maxLen
  len : l.length = len
  bytes : isBytes l
  sees : Sees w b off l

theorem At.later {w w' : World} {b off len cap : Nat} {l : List Int} (h : At w b off len cap l) (hb : Below w.heap.size w w') : At w' b off len cap l := ⟨h.cap1, h.cap2, h.len, h.bytes, h.sees.later hb⟩

theorem At.bts {w : World} {b off len cap : Nat} {l : List Int} (h : At w b off len cap l) : Bts w (.slice (some ⟨b, off, none⟩) len cap) l :=
  ⟨_, cap, b, off, by rw [h.len], by rw [h.len]; exact h.cap1, h.cap2, h.bytes, .inl rfl, h.sees⟩

theorem Owns.later {w w' : World} {base : Nat} {v : Value} {l : List Int} (h : Owns w base v l) (hb : Below w.heap.size w w') : Owns w' base v l := by
  refine ⟨h.1, ?_⟩
  rcases h.2 with h' | ⟨g, cap, cur, h1, h2, h3, h4⟩
  · exact .inl h'
  · refine .inr ⟨g, cap, cur, h1, h2, ?_, h4⟩
    have hg : g < w.heap.size := by
      rcases Nat.lt_or_ge g w.heap.size with h | h
      · exact h
      · rw [Array.getElem?_eq_none h] at h3; cases h3
    rw [hb.block g hg]; exact h3

theorem Owns.low {w : World} {base base' : Nat} {v : Value} {l : List Int} (h : Owns w base v l) (hb : base' ≤ base) : Owns w base' v l := by
  refine ⟨h.1, ?_⟩
  rcases h.2 with h' | ⟨g, cap, cur, h1, h2, r⟩
  · exact .inl h'
  · exact .inr ⟨g, cap, cur, h1, Nat.le_trans hb h2, r⟩

/-- One byte behind a row of the call's own. -/
theorem append_one (W : World) (base : Nat) (v : Value) (l : List Int) (c : Int) (hv : Owns W base v l) (hbase : base ≤ W.heap.size) (hlen : l.length ≤ 140737488351000) :
    ∃ v' w', (Builtin.append_ #[39, 39] 39 #[v, .slice (some ⟨W.heap.size, 0, none⟩) 1 1]).run Tryz.prog (W.alloc (.cells #[.int .u8 c] 5)) = .ok v' w' ∧ Owns w' base v' (l ++ [c]) ∧ Below base W w' := by
  obtain ⟨i0, hi, hz0, hz1, hz2⟩ := info_parts info5
  have hown2 : (W.alloc (.cells #[.int .u8 c] 5)).ownsRow base 5 1 v l.length (l.map (Value.int .u8)) := World.ownsRow.alloc hv _
  obtain ⟨v', w', hr, ho, hg, -⟩ := run_append_own (P := Tryz.prog) (W.alloc (.cells #[.int .u8 c] 5)) base 39 39 5 i0 (.int .u8 0) 1 1 Tryz.underlying39 hi hz0 hz1 hz2 rfl (by decide) v l.length (l.map (Value.int .u8)) hown2 ⟨W.heap.size, 0, none⟩ 1 1 [.int .u8 c] rfl (by
    intro j u hj
    match j, hj with
    | 0, hj => simp at hj; subst hj; simp [Addr.add]) (by intro u hu; simp at hu; subst hu; rfl) (by unfold maxLen; omega) (by omega) (by simp; omega)
  refine ⟨v', w', hr, ?_, ((Below.refl _ _).alloc hbase _).grown hg (by simp; omega) (fun k hk => (hv.lt k hk).1)⟩
  unfold Owns
  simpa using ho

theorem append_bts (W : World) (base : Nat) (v vm : Value) (l m : List Int) (hv : Owns W base v l) (hm : Bts W vm m) (hbase : base ≤ W.heap.size) (hlen : l.length + m.length ≤ 140737488351232) :
    ∃ v' w', (Builtin.append_ #[39, 39] 39 #[v, vm]).run Tryz.prog W = .ok v' w' ∧ Owns w' base v' (l ++ m) ∧ Below base W w' := by
  obtain ⟨i0, hi, hz0, hz1, hz2⟩ := info_parts info5
  obtain ⟨a, cap, b, off, rfl, h2, h3, h4, h5, h6⟩ := hm
  have core : ∀ ad : Addr, (∀ j u, (m.map (Value.int .u8))[j]? = some u → W.cell? (ad.add j) = some u) →
      ∃ v' w', (Builtin.append_ #[39, 39] 39 #[v, .slice (some ad) m.length cap]).run Tryz.prog W = .ok v' w' ∧ Owns w' base v' (l ++ m) ∧ Below base W w' := by
    intro ad hcs
    obtain ⟨v', w', hr, ho, hg, -⟩ := run_append_own (P := Tryz.prog) W base 39 39 5 i0 (.int .u8 0) 1 1 Tryz.underlying39 hi hz0 hz1 hz2 rfl (by decide) v l.length (l.map (Value.int .u8)) hv ad m.length cap (m.map (Value.int .u8)) (by simp) hcs (ones_cell m) (by unfold maxLen; omega) (by omega) hbase
    refine ⟨v', w', hr, ?_, (Below.refl _ _).grown hg hbase (fun k hk => (hv.lt k hk).1)⟩
    unfold Owns
    rw [List.map_append, List.length_append]
    exact ho
  rcases h5 with rfl | rfl
  · exact core ⟨b, off, none⟩ (cells_of_sees h6)
  · cases a with
    | some ad => exact core ad (fun j u hj => by simp at hj)
    | none =>
      refine ⟨v, W, ?_, by simpa using hv, Below.refl _ _⟩
      rcases hv.2 with ⟨rfl, -⟩ | ⟨g, c', cur, rfl, -, -, hn, -⟩
      · simp [Builtin.append_, run_underlying Tryz.underlying39, sizeOf, typeInfo, hi, Builtin.lenOf, Builtin.firstCells]
      · simp [Builtin.append_, run_underlying Tryz.underlying39, sizeOf, typeInfo, hi, Builtin.lenOf, Builtin.firstCells, loadCells, storeCells, Result.andThen, hn]

theorem owns_lit2 (w : World) (a b : Int) : Owns (w.alloc (.cells #[.int .u8 a, .int .u8 b] 5)) w.heap.size (.slice (some ⟨w.heap.size, 0, none⟩) 2 2) [a, b] :=
  World.ownsRow_lit w #[.int .u8 a, .int .u8 b] 2 (Nat.le_refl _) (by decide) rfl

theorem holds8_mk {w : World} {base G len cap : Nat} {L : List Int} (h : Owns w base (.slice (some ⟨G, 0, none⟩) len cap) L) (hl : L.length = len) : Holds8 w base G len cap L := ⟨hl, by unfold Owns at h; rwa [hl] at h⟩

theorem Holds8.later {w w' : World} {base G len cap : Nat} {L : List Int} (h : Holds8 w base G len cap L) (hb : Below w.heap.size w w') : Holds8 w' base G len cap L := holds8_mk (h.owns.later hb) h.1

set_option maxHeartbeats 1000000 in
theorem part_any (b off len cap : Nat) (l : List Int) (x y : Int) (p q : Nat) (w : World) (hA : At w b off len cap l) (hx : x = (p : Int)) (hy : y = (q : Int)) (hpq : p ≤ q) (hn : q ≤ len) (hl : len ≤ 140737488351232) :
    Calls Tryz.prog 119 #[.slice (some ⟨b, off, none⟩) len cap, .int .i64 x, .int .i64 y] w fun e w' => ∃ v, e = .returned v ∧ Owns w' w.heap.size v ((l.drop p).take (q - p)) ∧ Below w.heap.size w w' := by
  subst hx hy
  obtain ⟨i0, hi, hz0, hz1, hz2⟩ := info_parts info5
  have HL : Hid (l.length = len) := hA.len
  have hs := hA.sees
  clear hA
  go_enter Tryz.func119, Tryz.ntmps119
  go_wp2
  go_loopw [7, 8] (fun v i wr => ∃ t : Nat, p ≤ t ∧ t ≤ q ∧ i = .int .i64 (t : Int) ∧ Owns wr w.heap.size v ((l.drop p).take (t - p)) ∧ Below w.heap.size w wr) (fun _ i _ => q - (intOf i).toNat)
  case atStart => exact ⟨p, Nat.le_refl _, hpq, rfl, by rw [Nat.sub_self]; exact World.ownsRow_nil _ _ _ _, Below.refl _ _⟩
  case round =>
    obtain ⟨t, ht1, ht2, rfl, hown, hbel⟩ := hrel
    by_cases hlt : t < q
    · have hcell : wr.cell? ⟨b, off + t, none⟩ = some (.int .u8 (l.getD t 0)) := cell_later hbel (hs t (by rw [HL.out]; omega))
      have htl : Hid (((l.drop p).take (t - p)).length = t - p) := by show _ = _; rw [List.length_take, List.length_drop, HL.out]; omega
      have hts : Hid ((l.drop p).take (t + 1 - p) = (l.drop p).take (t - p) ++ [l.getD t 0]) := by
        show _ = _
        have := take_next l p (t - p) (by rw [HL.out]; omega)
        rwa [show t - p + 1 = t + 1 - p by omega, show p + (t - p) = t by omega] at this
      have hsz := hbel.size
      have htb : (t : Int) < (len : Int) := by omega
      generalize hC : l.getD t 0 = c at *
      clear hC
      have hown2 : (wr.alloc (.cells #[.int .u8 c] 5)).ownsRow w.heap.size 5 1 _ ((l.drop p).take (t - p)).length (((l.drop p).take (t - p)).map (Value.int .u8)) := World.ownsRow.alloc hown _
      go_wp2_with (at_builtin; refine wpList_append_own _ rfl _ _ 39 rfl w.heap.size 5 i0 (.int .u8 0) 1 1 Tryz.underlying39 hi hz0 hz1 hz2 rfl (by decide) _ _ _ rfl hown2 ⟨wr.heap.size, 0, none⟩ 1 1 [.int .u8 c] rfl rfl ?c1 ?c2 ?c3 ?c4 ?c5 ?_)
      case c1 =>
        intro j u hj
        match j, hj with
        | 0, hj => simp at hj; subst hj; simp [Addr.add]
      case c2 => intro u hu; simp at hu; subst hu; rfl
      case c3 => rw [htl.out]; unfold maxLen; omega
      case c4 => rw [htl.out]; omega
      case c5 => simp; omega
      intro v' w1 hown' hgrow _
      have R1 : Owns w1 w.heap.size v' ((l.drop p).take (t + 1 - p)) := by
        unfold Owns; rw [hts.out]; simpa using hown'
      have R2 : Below w.heap.size w w1 := by
        refine (hbel.alloc hsz _).grown hgrow (by simp; omega) ?_
        intro j hj
        exact (hown.lt j hj).1
      clear hown' hgrow hown2
      go_wp2
      go_roundw
      case rel => exact ⟨t + 1, by omega, by omega, by go_num, R1, R2⟩
      case measure => simp [intOf]; omega
    · have hke : t = q := by omega
      subst hke
      go_wp2
      go_ret
      exact ⟨_, rfl, hown, hbel⟩

set_option maxHeartbeats 2000000 in
theorem lay_any (W : World) (base : Nat) (v : Value) (l : List Int) (q : Int) (n : Nat) (x : Int) (w0 : World) (hv : Owns W base v l) (hbase : base ≤ W.heap.size) (hlen : l.length ≤ 5000) (hq : q = (n : Int)) (hn : n ≤ 4) (hb0 : Below base w0 W) :
    Calls Tryz.prog 102 #[v, .int .i64 q, .int .u64 x] W fun e w' => ∃ v', e = .returned v' ∧ Owns w' base v' (l ++ bytesOfN n x) ∧ Below base w0 w' ∧ base ≤ w'.heap.size := by
  subst hq
  go_enter Tryz.func102, Tryz.ntmps102
  go_wp2
  go_loopw [0, 7] (fun v i wr => ∃ (m : Nat) (L : List Int), m ≤ n ∧ i = .int .i64 ((m : Int) - 1) ∧ Owns wr base v L ∧ L ++ bytesOfN m x = l ++ bytesOfN n x ∧ L.length + m ≤ 5004 ∧ Below base w0 wr ∧ base ≤ wr.heap.size) (fun _ i _ => (intOf i + 1).toNat)
  case atStart => exact ⟨n, l, Nat.le_refl _, rfl, hv, rfl, by omega, hb0, hbase⟩
  case round =>
    obtain ⟨m, L, hm, rfl, hown, hL, hLl, hbel, hsz⟩ := hrel
    have HL : Hid (L ++ bytesOfN m x = l ++ bytesOfN n x) := hL
    clear hL
    by_cases hpos : 0 < m
    · have hc : m = 1 ∨ m = 2 ∨ m = 3 ∨ m = 4 := by omega
      rcases hc with rfl | rfl | rfl | rfl
      · have hr := append_one wr base _ L (x % 256) hown hsz (by omega)
        obtain ⟨v', w1, hrun, ho, hb⟩ := hr
        have R2 : Below base w0 w1 := hbel.trans hb
        have R3 : base ≤ w1.heap.size := Nat.le_trans hsz hb.size
        have R1 : Hid ((L ++ [x % 256]) ++ bytesOfN 0 x = l ++ bytesOfN n x) := by show _ = _; rw [← HL.out, List.append_assoc]; rfl
        go_wp2_with (at_builtin; refine wpl_append_run rfl _ _ 39 rfl _ _ rfl rfl hrun ?_)
        go_roundw
        case rel => exact ⟨0, L ++ [x % 256], by omega, by go_num, ho, R1.out, by simp; omega, R2, R3⟩
        case measure => simp [intOf]
      · have hr := append_one wr base _ L (x / 256 % 256) hown hsz (by omega)
        obtain ⟨v', w1, hrun, ho, hb⟩ := hr
        have R2 : Below base w0 w1 := hbel.trans hb
        have R3 : base ≤ w1.heap.size := Nat.le_trans hsz hb.size
        have R1 : Hid ((L ++ [x / 256 % 256]) ++ bytesOfN 1 x = l ++ bytesOfN n x) := by show _ = _; rw [← HL.out, List.append_assoc]; rfl
        go_wp2_with (at_builtin; refine wpl_append_run rfl _ _ 39 rfl _ _ rfl rfl hrun ?_)
        go_roundw
        case rel => exact ⟨1, L ++ [x / 256 % 256], by omega, by go_num, ho, R1.out, by simp; omega, R2, R3⟩
        case measure => simp [intOf]
      · have hr := append_one wr base _ L (x / 65536 % 256) hown hsz (by omega)
        obtain ⟨v', w1, hrun, ho, hb⟩ := hr
        have R2 : Below base w0 w1 := hbel.trans hb
        have R3 : base ≤ w1.heap.size := Nat.le_trans hsz hb.size
        have R1 : Hid ((L ++ [x / 65536 % 256]) ++ bytesOfN 2 x = l ++ bytesOfN n x) := by show _ = _; rw [← HL.out, List.append_assoc]; rfl
        go_wp2_with (at_builtin; refine wpl_append_run rfl _ _ 39 rfl _ _ rfl rfl hrun ?_)
        go_roundw
        case rel => exact ⟨2, L ++ [x / 65536 % 256], by omega, by go_num, ho, R1.out, by simp; omega, R2, R3⟩
        case measure => simp [intOf]
      · have hr := append_one wr base _ L (x / 16777216 % 256) hown hsz (by omega)
        obtain ⟨v', w1, hrun, ho, hb⟩ := hr
        have R2 : Below base w0 w1 := hbel.trans hb
        have R3 : base ≤ w1.heap.size := Nat.le_trans hsz hb.size
        have R1 : Hid ((L ++ [x / 16777216 % 256]) ++ bytesOfN 3 x = l ++ bytesOfN n x) := by show _ = _; rw [← HL.out, List.append_assoc]; rfl
        go_wp2_with (at_builtin; refine wpl_append_run rfl _ _ 39 rfl _ _ rfl rfl hrun ?_)
        go_roundw
        case rel => exact ⟨3, L ++ [x / 16777216 % 256], by omega, by go_num, ho, R1.out, by simp; omega, R2, R3⟩
        case measure => simp [intOf]
    · have hm0 : m = 0 := by omega
      subst hm0
      have hLe : L = l ++ bytesOfN n x := by have := HL.out; rwa [show bytesOfN 0 x = [] from rfl, List.append_nil] at this
      rw [hLe] at hown
      clear HL hLe
      go_wp2
      go_ret
      exact ⟨_, rfl, hown, hbel, hsz⟩

end Go.Proofs.YtafkkehcacdodaaGreat
