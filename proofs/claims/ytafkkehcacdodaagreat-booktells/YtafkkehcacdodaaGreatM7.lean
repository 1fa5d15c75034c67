/- Rows of bytes: parts, what is laid, what is appended. -/
import Derived.Test.YtafkkehcacdodaaGreatPut
import Derived.Test.YtafkkehcacdodaaGreatM2
import Derived.Deep.OwnRows
import Derived.Deep.RegionHeld3
import Derived.Test.YtafkkehcacdodaaGreatM5
set_option maxRecDepth 100000
namespace Go.Proofs.YtafkkehcacdodaaGreat
open Go.RowKit

/-- append, where its run is known. -/
theorem wpl_append_run {P : Program} {w : World} {ops : Array Oper} {rest : List Oper} {o : Oper} {a : Act} {Q : Exit → Act → World → Prop} (hgd : o.guard = none) (s x : Operand) (t : TypeId)
    (ho : o.op = .call { callee := .builtin .append, args := #[s, x], argTypes := #[t, t] }) (v u : Value) (hs : a.eval s = v) (hx : a.eval x = u) {v' : Value} {w' : World}
    (hr : (Builtin.append_ #[t, t] o.type #[v, u]).run P w = .ok v' w') (h : wpList P ops Q rest (a.put o.dst v') w') : wpList P ops Q (o :: rest) a w :=
  wpList_plain hgd fun _ hK => by
    unfold Oper.wp execOp
    simp only [ho, resolve, invoke, builtin, Sem.run_bind, Sem.run_pure, Result.andThen_ok, List.map_toArray, List.map_cons, List.map_nil, hs, hx, hr]
    exact hK _ _ h

/-- Bytes that a slice shows, with the head of the row. -/
structure At (w : World) (b off len cap : Nat) (l : List Int) : Prop where
  cap1 : len ≤ cap
  cap2 : cap ≤ maxLen
  len : l.length = len
  bytes : isBytes l
  sees : Sees w b off l

theorem At.later {w w' : World} {b off len cap : Nat} {l : List Int} (h : At w b off len cap l) (hb : Below w.heap.size w w') : At w' b off len cap l := ⟨h.cap1, h.cap2, h.len, h.bytes, h.sees.later hb⟩

theorem At.bts {w : World} {b off len cap : Nat} {l : List Int} (h : At w b off len cap l) : Bts w (.slice (some ⟨b, off, none⟩) len cap) l :=
  ⟨_, cap, b, off, by rw [h.len], by rw [h.len]; exact h.cap1, h.cap2, h.bytes, .inl rfl, h.sees⟩

theorem Owns.later {w w' : World} {base : Nat} {v : Value} {l : List Int} (h : Owns w base v l) (hb : Below w.heap.size w w') : Owns w' base v l := by
  refine ⟨h.1, ?_⟩
  rcases h.2 with h' | ⟨g, cap, cur, h1, h2, h3, h4⟩
  · exact .inl h'
  · refine .inr ⟨g, cap, cur, h1, h2, ?_, h4⟩
    have hg : g < w.heap.size := by
      rcases Nat.lt_or_ge g w.heap.size with h | h
      · exact h
      · rw [Array.getElem?_eq_none h] at h3; cases h3
    rw [hb.block g hg]; exact h3

theorem Owns.low {w : World} {base base' : Nat} {v : Value} {l : List Int} (h : Owns w base v l) (hb : base' ≤ base) : Owns w base' v l := by
  refine ⟨h.1, ?_⟩
  rcases h.2 with h' | ⟨g, cap, cur, h1, h2, r⟩
  · exact .inl h'
  · exact .inr ⟨g, cap, cur, h1, Nat.le_trans hb h2, r⟩

/-- One byte behind a row of the call's own. -/
theorem append_one (W : World) (base : Nat) (v : Value) (l : List Int) (c : Int) (hv : Owns W base v l) (hbase : base ≤ W.heap.size) (hlen : l.length ≤ 140737488351000) :
    ∃ v' w', (Builtin.append_ #[39, 39] 39 #[v, .slice (some ⟨W.heap.size, 0, none⟩) 1 1]).run Tryz.prog (W.alloc (.cells #[.int .u8 c] 5)) = .ok v' w' ∧ Owns w' base v' (l ++ [c]) ∧ Below base W w' := by
  obtain ⟨i0, hi, hz0, hz1, hz2⟩ := info_parts info5
  have hown2 : (W.alloc (.cells #[.int .u8 c] 5)).ownsRow base 5 1 v l.length (l.map (Value.int .u8)) := World.ownsRow.alloc hv _
  obtain ⟨v', w', hr, ho, hg, -⟩ := run_append_own (P := Tryz.prog) (W.alloc (.cells #[.int .u8 c] 5)) base 39 39 5 i0 (.int .u8 0) 1 1 Tryz.underlying39 hi hz0 hz1 hz2 rfl (by decide) v l.length (l.map (Value.int .u8)) hown2 ⟨W.heap.size, 0, none⟩ 1 1 [.int .u8 c] rfl (by
    intro j u hj
    match j, hj with
    | 0, hj => simp at hj; subst hj; simp [Addr.add]) (by intro u hu; simp at hu; subst hu; rfl) (by unfold maxLen; omega) (by omega) (by simp; omega)
  refine ⟨v', w', hr, ?_, ((Below.refl _ _).alloc hbase _).grown hg (by simp; omega) (fun k hk => (hv.lt k hk).1)⟩
  unfold Owns
  simpa using ho

theorem append_bts (W : World) (base : Nat) (v vm : Value) (l m : List Int) (hv : Owns W base v l) (hm : Bts W vm m) (hbase : base ≤ W.heap.size) (hlen : l.length + m.length ≤ 140737488351232) :
    ∃ v' w', (Builtin.append_ #[39, 39] 39 #[v, vm]).run Tryz.prog W = .ok v' w' ∧ Owns w' base v' (l ++ m) ∧ Below base W w' := by
  obtain ⟨i0, hi, hz0, hz1, hz2⟩ := info_parts info5
  obtain ⟨a, cap, b, off, rfl, h2, h3, h4, h5, h6⟩ := hm
  have core : ∀ ad : Addr, (∀ j u, (m.map (Value.int .u8))[j]? = some u → W.cell? (ad.add j) = some u) →
      ∃ v' w', (Builtin.append_ #[39, 39] 39 #[v, .slice (some ad) m.length cap]).run Tryz.prog W = .ok v' w' ∧ Owns w' base v' (l ++ m) ∧ Below base W w' := by
    intro ad hcs
    obtain ⟨v', w', hr, ho, hg, -⟩ := run_append_own (P := Tryz.prog) W base 39 39 5 i0 (.int .u8 0) 1 1 Tryz.underlying39 hi hz0 hz1 hz2 rfl (by decide) v l.length (l.map (Value.int .u8)) hv ad m.length cap (m.map (Value.int .u8)) (by simp) hcs (ones_cell m) (by unfold maxLen; omega) (by omega) hbase
    refine ⟨v', w', hr, ?_, (Below.refl _ _).grown hg hbase (fun k hk => (hv.lt k hk).1)⟩
    unfold Owns
    rw [List.map_append, List.length_append]
    exact ho
  rcases h5 with rfl | rfl
  · exact core ⟨b, off, none⟩ (cells_of_sees h6)
  · cases a with
    | some ad => exact core ad (fun j u hj => by simp at hj)
    | none =>
      refine ⟨v, W, ?_, by simpa using hv, Below.refl _ _⟩
      rcases hv.2 with ⟨rfl, -⟩ | ⟨g, c', cur, rfl, -, -, hn, -⟩
      · simp [Builtin.append_, run_underlying Tryz.underlying39, sizeOf, typeInfo, hi, Builtin.lenOf, Builtin.firstCells]
      · simp [Builtin.append_, run_underlying Tryz.underlying39, sizeOf, typeInfo, hi, Builtin.lenOf, Builtin.firstCells, loadCells, storeCells, Result.andThen, hn]

theorem owns_lit2 (w : World) (a b : Int) : Owns (w.alloc (.cells #[.int .u8 a, .int .u8 b] 5)) w.heap.size (.slice (some ⟨w.heap.size, 0, none⟩) 2 2) [a, b] :=
  World.ownsRow_lit w #[.int .u8 a, .int .u8 b] 2 (Nat.le_refl _) (by decide) rfl

theorem holds8_mk {w : World} {base G len cap : Nat} {L : List Int} (h : Owns w base (.slice (some ⟨G, 0, none⟩) len cap) L) (hl : L.length = len) : Holds8 w base G len cap L := ⟨hl, by unfold Owns at h; rwa [hl] at h⟩

theorem Holds8.later {w w' : World} {base G len cap : Nat} {L : List Int} (h : Holds8 w base G len cap L) (hb : Below w.heap.size w w') : Holds8 w' base G len cap L := holds8_mk (h.owns.later hb) h.1

set_option maxHeartbeats 1000000 in
theorem part_any (b off len cap : Nat) (l : List Int) (x y : Int) (p q : Nat) (w : World) (hA : At w b off len cap l) (hx : x = (p : Int)) (hy : y = (q : Int)) (hpq : p ≤ q) (hn : q ≤ len) (hl : len ≤ 140737488351232) :
    Calls Tryz.prog 119 #[.slice (some ⟨b, off, none⟩) len cap, .int .i64 x, .int .i64 y] w fun e w' => ∃ v, e = .returned v ∧ Owns w' w.heap.size v ((l.drop p).take (q - p)) ∧ Below w.heap.size w w' := by
  subst hx hy
  obtain ⟨i0, hi, hz0, hz1, hz2⟩ := info_parts info5
  have HL : Hid (l.length = len) := hA.len
  have hs := hA.sees
  clear hA
  go_enter Tryz.func119, Tryz.ntmps119
  go_wp2
  go_loopw [7, 8] (fun v i wr => ∃ t : Nat, p ≤ t ∧ t ≤ q ∧ i = .int .i64 (t : Int) ∧ Owns wr w.heap.size v ((l.drop p).take (t - p)) ∧ Below w.heap.size w wr) (fun _ i _ => q - (intOf i).toNat)
  case atStart => exact ⟨p, Nat.le_refl _, hpq, rfl, by rw [Nat.sub_self]; exact World.ownsRow_nil _ _ _ _, Below.refl _ _⟩
  case round =>
    obtain ⟨t, ht1, ht2, rfl, hown, hbel⟩ := hrel
    by_cases hlt : t < q
    · have hcell : wr.cell? ⟨b, off + t, none⟩ = some (.int .u8 (l.getD t 0)) := cell_later hbel (hs t (by rw [HL.out]; omega))
      have htl : Hid (((l.drop p).take (t - p)).length = t - p) := by show _ = _; rw [List.length_take, List.length_drop, HL.out]; omega
      have hts : Hid ((l.drop p).take (t + 1 - p) = (l.drop p).take (t - p) ++ [l.getD t 0]) := by
        show _ = _
        have := take_next l p (t - p) (by rw [HL.out]; omega)
        rwa [show t - p + 1 = t + 1 - p by omega, show p + (t - p) = t by omega] at this
      have hsz := hbel.size
      have htb : (t : Int) < (len : Int) := by omega
      generalize hC : l.getD t 0 = c at *
      clear hC
      have hown2 : (wr.alloc (.cells #[.int .u8 c] 5)).ownsRow w.heap.size 5 1 _ ((l.drop p).take (t - p)).length (((l.drop p).take (t - p)).map (Value.int .u8)) := World.ownsRow.alloc hown _
      go_wp2_with (at_builtin; refine wpList_append_own _ rfl _ _ 39 rfl w.heap.size 5 i0 (.int .u8 0) 1 1 Tryz.underlying39 hi hz0 hz1 hz2 rfl (by decide) _ _ _ rfl hown2 ⟨wr.heap.size, 0, none⟩ 1 1 [.int .u8 c] rfl rfl ?c1 ?c2 ?c3 ?c4 ?c5 ?_)
      case c1 =>
        intro j u hj
        match j, hj with
        | 0, hj => simp at hj; subst hj; simp [Addr.add]
      case c2 => intro u hu; simp at hu; subst hu; rfl
      case c3 => rw [htl.out]; unfold maxLen; omega
      case c4 => rw [htl.out]; omega
      case c5 => simp; omega
      intro v' w1 hown' hgrow _
      have R1 : Owns w1 w.heap.size v' ((l.drop p).take (t + 1 - p)) := by
        unfold Owns; rw [hts.out]; simpa using hown'
      have R2 : Below w.heap.size w w1 := by
        refine (hbel.alloc hsz _).grown hgrow (by simp; omega) ?_
        intro j hj
        exact (hown.lt j hj).1
      clear hown' hgrow hown2
      go_wp2
      go_roundw
      case rel => exact ⟨t + 1, by omega, by omega, by go_num, R1, R2⟩
      case measure => simp [intOf]; omega
    · have hke : t = q := by omega
      subst hke
      go_wp2
      go_ret
      exact ⟨_, rfl, hown, hbel⟩

set_option maxHeartbeats 2000000 in
theorem lay_any (W : World) (base : Nat) (v : Value) (l : List Int) (q : Int) (n : Nat) (x : Int) (w0 : World) (hv : Owns W base v l) (hbase : base ≤ W.heap.size) (hlen : l.length ≤ 5000) (hq : q = (n : Int)) (hn : n ≤ 4) (hb0 : Below base w0 W) :
    Calls Tryz.prog 102 #[v, .int .i64 q, .int .u64 x] W fun e w' => ∃ v', e = .returned v' ∧ Owns w' base v' (l ++ bytesOfN n x) ∧ Below base w0 w' ∧ base ≤ w'.heap.size := by
  subst hq
  go_enter Tryz.func102, Tryz.ntmps102
  go_wp2
  go_loopw [0, 7] (fun v i wr => ∃ (m : Nat) (L : List Int), m ≤ n ∧ i = .int .i64 ((m : Int) - 1) ∧ Owns wr base v L ∧ L ++ bytesOfN m x = l ++ bytesOfN n x ∧ L.length + m ≤ 5004 ∧ Below base w0 wr ∧ base ≤ wr.heap.size) (fun _ i _ => (intOf i + 1).toNat)
  case atStart => exact ⟨n, l, Nat.le_refl _, rfl, hv, rfl, by omega, hb0, hbase⟩
  case round =>
    obtain ⟨m, L, hm, rfl, hown, hL, hLl, hbel, hsz⟩ := hrel
    have HL : Hid (L ++ bytesOfN m x = l ++ bytesOfN n x) := hL
    clear hL
    by_cases hpos : 0 < m
    · have hc : m = 1 ∨ m = 2 ∨ m = 3 ∨ m = 4 := by omega
      rcases hc with rfl | rfl | rfl | rfl
      · have hr := append_one wr base _ L (x % 256) hown hsz (by omega)
        obtain ⟨v', w1, hrun, ho, hb⟩ := hr
        have R2 : Below base w0 w1 := hbel.trans hb
        have R3 : base ≤ w1.heap.size := Nat.le_trans hsz hb.size
        have R1 : Hid ((L ++ [x % 256]) ++ bytesOfN 0 x = l ++ bytesOfN n x) := by show _ = _; rw [← HL.out, List.append_assoc]; rfl
        go_wp2_with (at_builtin; refine wpl_append_run rfl _ _ 39 rfl _ _ rfl rfl hrun ?_)
        go_roundw
        case rel => exact ⟨0, L ++ [x % 256], by omega, by go_num, ho, R1.out, by simp; omega, R2, R3⟩
        case measure => simp [intOf]
      · have hr := append_one wr base _ L (x / 256 % 256) hown hsz (by omega)
        obtain ⟨v', w1, hrun, ho, hb⟩ := hr
        have R2 : Below base w0 w1 := hbel.trans hb
        have R3 : base ≤ w1.heap.size := Nat.le_trans hsz hb.size
        have R1 : Hid ((L ++ [x / 256 % 256]) ++ bytesOfN 1 x = l ++ bytesOfN n x) := by show _ = _; rw [← HL.out, List.append_assoc]; rfl
        go_wp2_with (at_builtin; refine wpl_append_run rfl _ _ 39 rfl _ _ rfl rfl hrun ?_)
        go_roundw
        case rel => exact ⟨1, L ++ [x / 256 % 256], by omega, by go_num, ho, R1.out, by simp; omega, R2, R3⟩
        case measure => simp [intOf]
      · have hr := append_one wr base _ L (x / 65536 % 256) hown hsz (by omega)
        obtain ⟨v', w1, hrun, ho, hb⟩ := hr
        have R2 : Below base w0 w1 := hbel.trans hb
        have R3 : base ≤ w1.heap.size := Nat.le_trans hsz hb.size
        have R1 : Hid ((L ++ [x / 65536 % 256]) ++ bytesOfN 2 x = l ++ bytesOfN n x) := by show _ = _; rw [← HL.out, List.append_assoc]; rfl
        go_wp2_with (at_builtin; refine wpl_append_run rfl _ _ 39 rfl _ _ rfl rfl hrun ?_)
        go_roundw
        case rel => exact ⟨2, L ++ [x / 65536 % 256], by omega, by go_num, ho, R1.out, by simp; omega, R2, R3⟩
        case measure => simp [intOf]
      · have hr := append_one wr base _ L (x / 16777216 % 256) hown hsz (by omega)
        obtain ⟨v', w1, hrun, ho, hb⟩ := hr
        have R2 : Below base w0 w1 := hbel.trans hb
        have R3 : base ≤ w1.heap.size := Nat.le_trans hsz hb.size
        have R1 : Hid ((L ++ [x / 16777216 % 256]) ++ bytesOfN 3 x = l ++ bytesOfN n x) := by show _ = _; rw [← HL.out, List.append_assoc]; rfl
        go_wp2_with (at_builtin; refine wpl_append_run rfl _ _ 39 rfl _ _ rfl rfl hrun ?_)
        go_roundw
        case rel => exact ⟨3, L ++ [x / 16777216 % 256], by omega, by go_num, ho, R1.out, by simp; omega, R2, R3⟩
        case measure => simp [intOf]
    · have hm0 : m = 0 := by omega
      subst hm0
      have hLe : L = l ++ bytesOfN n x := by have := HL.out; rwa [show bytesOfN 0 x = [] from rfl, List.append_nil] at this
      rw [hLe] at hown
      clear HL hLe
      go_wp2
      go_ret
      exact ⟨_, rfl, hown, hbel, hsz⟩

end Go.Proofs.YtafkkehcacdodaaGreat

namespace Go.Proofs.YtafkkehcacdodaaGreat
open Go.RowKit

set_option maxHeartbeats 1000000 in
theorem attempt_ok (w : World) (tag : Nat → Nat) (base o : Nat) (s : St) (p : PL) (h : PD w tag base o s p) (hops : s.ops ≤ 1000000) (hout : s.outs.length ≤ 1000000) :
    Calls Tryz.prog 128 #[.pointer (some ⟨p.D, 0, none⟩)] w fun e w' => e = .returned (.tuple #[.bool (doneB s.out), .int .i64 (errC s.out)]) ∧ ∃ p', p'.D = p.D ∧ PD w' tag base o s.take p' ∧ Step tag tag base o w w' := by
  have h1 := h.d1
  obtain ⟨b0, b1⟩ := St.out_byte h.ok.ob
  have HN := next_ok w tag base o s p h hops hout
  clear h
  by_cases k0 : s.out % 3 = 0
  · have E1 : Hid (doneB s.out = true) := by show doneB _ = true; simp [doneB, k0]
    have E2 : Hid (errC s.out = 0) := by show errC _ = _; simp [errC, k0]
    go_enter Tryz.func128, Tryz.ntmps128
    go_wp2_with (go_at_call 67; refine HN.mono ?_; rintro e w' ⟨rfl, p', hD, hP, hS⟩)
    go_ret2
    exact ⟨by rw [E1.out, E2.out]; rfl, p', hD, hP, hS⟩
  · by_cases k1 : s.out % 3 = 1
    · have E1 : Hid (doneB s.out = false) := by show doneB _ = false; simp [doneB, k1]
      have E2 : Hid (errC s.out = 8) := by show errC _ = _; simp [errC, k1]
      go_enter Tryz.func128, Tryz.ntmps128
      go_wp2_with (go_at_call 67; refine HN.mono ?_; rintro e w' ⟨rfl, p', hD, hP, hS⟩)
      go_ret2
      exact ⟨by rw [E1.out, E2.out]; rfl, p', hD, hP, hS⟩
    · have E1 : Hid (doneB s.out = true) := by show doneB _ = true; simp [doneB, k1]
      have E2 : Hid (errC s.out = 8) := by show errC _ = _; simp [errC, k0]
      go_enter Tryz.func128, Tryz.ntmps128
      go_wp2_with (go_at_call 67; refine HN.mono ?_; rintro e w' ⟨rfl, p', hD, hP, hS⟩)
      go_ret2
      exact ⟨by rw [E1.out, E2.out]; rfl, p', hD, hP, hS⟩

theorem leftN_past (ch : List Int) (i : Nat) (h : ch.length ≤ i) : leftN ch i = 64 := by
  unfold leftN; rw [List.getD_eq_getElem?_getD, List.getElem?_eq_none h]; simp

theorem leftN_of (ch : List Int) (i : Nat) (c : Int) (h : ch.getD i 0 = c) : leftN ch i = if c % 3 = 0 then 64 else if c % 3 = 1 then 0 else min (c / 3).toNat 64 := by
  unfold leftN; rw [h]

set_option maxHeartbeats 1000000 in
theorem left_ok (w : World) (v : Value) (ch : List Int) (i : Nat) (h : Bts w v ch) :
    Calls Tryz.prog 44 #[v, .int .i64 i] w fun e w' => e = .returned (.int .i64 (leftN ch i)) ∧ w' = w := by
  obtain ⟨a, cap, b, off, rfl, hl, hm, hb, ha, hs⟩ := h
  unfold maxLen at hm
  by_cases hlt : i < ch.length
  · have hlt' : (i : Int) < (ch.length : Int) := by omega
    rcases ha with rfl | hnil
    case inr => rw [hnil] at hlt; simp at hlt
    have hc := hs i hlt
    obtain ⟨c0, c1⟩ := getD_byte ch hb i
    have HL : Hid (∀ c, ch.getD i 0 = c → leftN ch i = if c % 3 = 0 then 64 else if c % 3 = 1 then 0 else min (c / 3).toNat 64) := leftN_of ch i
    generalize hC : ch.getD i 0 = c at *
    have HE := HL.out c rfl
    clear HL hC
    have HX : Hid (leftN ch i = if c % 3 = 0 then 64 else if c % 3 = 1 then 0 else min (c / 3).toNat 64) := HE
    clear HE
    by_cases k0 : c % 3 = 0
    · go_enter Tryz.func44, Tryz.ntmps44
      go_wp2
      go_ret
      exact ⟨by rw [HX.out, if_pos k0]; rfl, rfl⟩
    · by_cases k1 : c % 3 = 1
      · go_enter Tryz.func44, Tryz.ntmps44
        go_wp2
        go_ret
        exact ⟨by rw [HX.out, if_neg k0, if_pos k1]; rfl, rfl⟩
      · have hd0 : 0 ≤ c / 3 := by omega
        have hd1 : c / 3 ≤ 85 := by omega
        by_cases k2 : c / 3 ≤ 64
        · go_enter Tryz.func44, Tryz.ntmps44
          go_wp2
          go_ret
          exact ⟨by rw [HX.out, if_neg k0, if_neg k1]; exact ret_int (by omega), rfl⟩
        · go_enter Tryz.func44, Tryz.ntmps44
          go_wp2
          go_ret
          exact ⟨by rw [HX.out, if_neg k0, if_neg k1]; exact ret_int (by omega), rfl⟩
  · have hge : (ch.length : Int) ≤ (i : Int) := by omega
    have HX : Hid (leftN ch i = 64) := leftN_past ch i (by omega)
    clear hs ha
    go_enter Tryz.func44, Tryz.ntmps44
    go_wp2
    go_ret
    exact ⟨by rw [HX.out]; rfl, rfl⟩

theorem bts_src {w : World} {v : Value} {l : List Int} (h : Bts w v l) : ∃ a c, v = .slice a l.length c ∧ l.length ≤ c ∧ c ≤ maxLen ∧ ((∃ ad, a = some ad ∧ ∀ j u, (bytesV l)[j]? = some u → w.cell? (ad.add j) = some u) ∨ l.length = 0) := by
  obtain ⟨a, cap, b, off, rfl, hl, hm, hb, ha, hs⟩ := h
  refine ⟨a, cap, rfl, hl, hm, ?_⟩
  rcases ha with rfl | hnil
  · exact .inl ⟨_, rfl, cells_of_sees hs⟩
  · right; rw [hnil]; rfl

set_option maxHeartbeats 1000000 in
theorem add_ok (w : World) (tag : Nat → Nat) (base o : Nat) (s : St) (p : PL) (h : PD w tag base o s p) (hbase : base ≤ w.heap.size) (v : Value) (l : List Int) (hv : Bts w v l) (hout : s.outs.length + l.length ≤ 1000000) :
    Calls Tryz.prog 42 #[.pointer (some ⟨p.Q, 0, none⟩), v] w fun e w' => e = .returned (.tuple #[]) ∧ ∃ p' tag', p'.D = p.D ∧ PD w' tag' base o (s.add l) p' ∧ Step tag tag' base o w w' := by
  obtain ⟨i0, hi, hz0, hz1, hz2⟩ := info_parts info5
  obtain ⟨a, c, rfl, hl, hm, hsrc⟩ := bts_src hv
  have hlb : isBytes l := by obtain ⟨_, _, _, _, _, _, _, hb, _⟩ := hv; exact hb
  obtain ⟨v', w1, hrun, hwin, hgrow, hat⟩ := win_append (P := Tryz.prog) w 39 39 5 i0 (.int .u8 0) 1 1 Tryz.underlying39 hi hz0 hz1 hz2 rfl (by decide) p.wv s.outs.length (bytesV s.outs) h.wW a l.length c (bytesV l) (by simp) hsrc (ones_bytes l) (by unfold maxLen; omega) (by omega)
  obtain ⟨hst, htv⟩ := step_grown hgrow hat h.tW (show (16 * o + 5) / 16 = o by omega) hbase
  have h0 := h.q0
  have hne : ∀ g, p.wv.ownBlock = some g → p.Q ≠ g := fun g hg e => by have a := h.tQ.1; have b := (h.tW g hg).1; rw [e] at a; omega
  have hblk : w1.heap[p.Q]? = w.heap[p.Q]? := hgrow.block p.Q h.bQ.lt (fun e => hne p.Q e.symm rfl)
  have hq1 : Blk w1 p.Q [p.wv, .int .i64 s.ops] := h.bQ.same hblk
  have c0 : w1.cell? ⟨p.Q, 0, none⟩ = some p.wv := hq1.cell 0
  have f0 : w1.frozen? ⟨p.Q, 0, none⟩ = false := hq1.frozen 0
  obtain ⟨av, cv, hva, _⟩ : ∃ av cv, v' = .slice av (s.outs.length + l.length) cv ∧ True := by
    rcases hwin.2 with ⟨h1, h2⟩ | ⟨g, oo, cap, cs, h1, _⟩
    · exact ⟨none, 0, by rw [h1, h2], trivial⟩
    · exact ⟨_, _, h1, trivial⟩
  have HP : Hid (PD w tag base o s p) := h
  have HF : Hid (∃ p' tag', p'.D = p.D ∧ PD (w1.setCell ⟨p.Q, 0, none⟩ v') tag' base o (s.add l) p' ∧ Step tag tag' base o w (w1.setCell ⟨p.Q, 0, none⟩ v')) := by
    refine ⟨{ p with wv := v' }, retag tag v' (16 * o + 5), rfl, ?_, hst.set h.tQ.2 (by rw [hst.tags _ h.bQ.lt]; have := h.tQ.1; omega) 0 _⟩
    have hk : ∀ k, k < w.heap.size → tag k ≠ 16 * o + 5 → k ≠ p.Q → (w1.setCell ⟨p.Q, 0, none⟩ v').heap[k]? = w.heap[k]? := fun k hk hne' hkq => by
      rw [heap_setCell_other _ _ k _ hkq]
      exact hgrow.block k hk (fun e => hne' (h.tW k e.symm).1)
    have hk' : ∀ {k T : Nat}, k < w.heap.size → tag k = T → T ≠ 16 * o + 5 → T ≠ 16 * o + 2 → (w1.setCell ⟨p.Q, 0, none⟩ v').heap[k]? = w.heap[k]? := fun {k T} hk1 hT h1 h2 => hk k hk1 (by rw [hT]; exact h1) (fun e => h2 (by rw [← hT, e]; exact h.tQ.1))
    refine ⟨h.bD.same (hk' h.bD.lt h.tD.1 (by omega) (by omega)), by simpa [St.add] using hq1.set 0 v', h.rC.same (hk' h.rC.lt h.tC.1 (by omega) (by omega)), h.rL.same (hk' h.rL.lt h.tL.1 (by omega) (by omega)), ?_, h.wU.same (fun g hg => hk' (h.wU.lt g hg) (h.tU g hg).1 (by omega) (by omega)), ?_, ?_, ?_, ?_, htv, ?_, h.ok.add hlb⟩
    · have : Win w1 1 v' (s.add l).outs.length (bytesV (s.add l).outs) := by simpa [St.add] using hwin
      refine this.same (fun g hg => heap_setCell_other _ _ g _ (fun e => ?_))
      subst e
      have := (htv _ hg).1
      rw [hst.tags _ h.bQ.lt, h.tQ.1] at this
      omega
    · exact ⟨by rw [hst.tags _ h.bD.lt]; exact h.tD.1, h.tD.2⟩
    · exact ⟨by rw [hst.tags _ h.bQ.lt]; exact h.tQ.1, h.tQ.2⟩
    · exact ⟨by rw [hst.tags _ h.rC.lt]; exact h.tC.1, h.tC.2⟩
    · exact ⟨by rw [hst.tags _ h.rL.lt]; exact h.tL.1, h.tL.2⟩
    · intro g hg
      exact ⟨by rw [hst.tags _ (h.wU.lt g hg)]; exact (h.tU g hg).1, (h.tU g hg).2⟩
  clear hst htv hwin hgrow hat hne hblk hq1 h hv hsrc
  obtain ⟨aw, cw, hwf, _⟩ := HP.out.wform
  rw [hwf] at hrun h0 c0
  clear hwf
  go_enter Tryz.func42, Tryz.ntmps42
  subst hva
  go_wp2_with (at_builtin; refine wpl_append_run rfl _ _ 39 rfl _ _ rfl rfl hrun ?_)
  refine bodyPost_end (results_none rfl _ _ _) rfl ?_
  exact ⟨rfl, HF.out⟩

set_option maxHeartbeats 1000000 in
theorem outcomes_ok (w : World) (tag : Nat → Nat) (base o : Nat) (s : St) (p : PL) (h : PD w tag base o s p) (hbase : base ≤ w.heap.size) (v : Value) (l : List Int) (hv : Bts w v l) (hout : s.outs.length + l.length ≤ 1000000) :
    Calls Tryz.prog 11 #[.pointer (some ⟨p.D, 0, none⟩), v] w fun e w' => e = .returned (.tuple #[]) ∧ ∃ p' tag', p'.D = p.D ∧ PD w' tag' base o (s.add l) p' ∧ Step tag tag' base o w w' := by
  have h1 := h.d0
  go_enter Tryz.func11, Tryz.ntmps11
  go_wp2_with (first
    | (go_at_call 41; refine (made_ok _ tag base o s p h).mono ?_; rintro e w' ⟨rfl, rfl⟩)
    | (go_at_call 42; refine (add_ok _ tag base o s p h hbase v l hv hout).mono ?_; rintro e w' ⟨rfl, hF⟩))
  refine bodyPost_end (results_none rfl _ _ _) rfl ?_
  exact ⟨rfl, hF⟩

end Go.Proofs.YtafkkehcacdodaaGreat

namespace Go.Proofs.YtafkkehcacdodaaGreat
open Go.RowKit

@[irreducible] def zeroC : Value := .agg (Array.replicate 64 (.int .u8 0))

theorem infoC : (Tryz.prog.info? 103).map (fun i => (i.zero, i.size, i.bytes)) = some (some (.agg (Array.replicate 64 (.int .u8 0))), 64, 64) := by kernel_rfl

theorem infoC' : (Tryz.prog.info? 103).map (fun i => (i.zero, i.size, i.bytes)) = some (some zeroC, 64, 64) := by
  unfold zeroC; exact infoC

theorem zeroC_cells : zeroC.cells.size = 64 := by unfold zeroC; simp [Value.cells]

theorem made_zeroC (n : Nat) : (madeCells zeroC.cells (n * 64)).toList = bytesV (zeros (n * 64)) := by
  apply List.ext_getElem?
  intro j
  unfold zeroC
  by_cases hj : j < n * 64
  · simp [madeCells, hj, Value.cells, zeros, Nat.mod_lt]
  · simp [madeCells, hj, zeros]

theorem run_equalIn_slice (d : Nat) (w : World) (a : Addr) (l c : Nat) : (Op.equalIn (d + 1) 68 (.slice (some a) l c) (.slice none 0 0)).run Tryz.prog w = .ok false w := by
  simp [Op.equalIn, run_underlying Tryz.underlying68]
theorem run_equal_slice (w : World) (a : Addr) (l c : Nat) : (Op.equal 68 (.slice (some a) l c) (.slice none 0 0)).run Tryz.prog w = .ok false w := run_equalIn_slice 9999 w a l c
theorem run_eql_slice (w : World) (a : Addr) (l c : Nat) : (binOp .eql 68 (.slice (some a) l c) (.slice none 0 0)).run Tryz.prog w = .ok (.bool false) w := by
  simp only [binOp]
  simp [run_equal_slice w a l c]

set_option maxHeartbeats 1000000 in
theorem clone_ok (w : World) (g cap n : Nat) (xs : List Value) (h : Row w 64 g cap n xs) (hn : 1 ≤ n) (hn2 : n ≤ 4096) (h1 : ∀ u ∈ xs, u.oneCell' = true) :
    Calls Tryz.prog 43 #[.slice (some ⟨g, 0, none⟩) n cap] w fun e w' => ∃ G c, e = .returned (.slice (some ⟨G, 0, none⟩) n c) ∧ w.heap.size ≤ G ∧ Row w' 64 G c n xs ∧ Below w.heap.size w w' := by
  obtain ⟨i0, hi, hz0, hz1, hz2⟩ := info_parts infoC'
  have hB : Below w.heap.size w (w.alloc (.cells #[] 103)) := below_alloc _ _
  have hown : (w.alloc (.cells #[] 103)).ownsRow w.heap.size 103 64 (.slice (some ⟨w.heap.size, 0, none⟩) 0 0) 0 [] := World.ownsRow_made w #[] 0 (Nat.le_refl _) (by decide) rfl
  have hsrc : ∀ j u, xs[j]? = some u → (w.alloc (.cells #[] 103)).cell? ((⟨g, 0, none⟩ : Addr).add j) = some u := by
    intro j u hu
    have hj : j < n * 64 := by rw [← h.1]; exact (List.getElem?_eq_some_iff.1 hu).1
    rw [add_at, Nat.zero_add]
    exact cell_later hB (by rw [h.cell j hj]; exact hu)
  obtain ⟨v', w1, hrun, ho, hg, _⟩ := run_append_own (P := Tryz.prog) (w.alloc (.cells #[] 103)) w.heap.size 68 68 103 i0 zeroC 64 64 Tryz.underlying68 hi hz0 hz1 hz2 zeroC_cells (by decide) (.slice (some ⟨w.heap.size, 0, none⟩) 0 0) 0 [] hown ⟨g, 0, none⟩ n cap xs h.1 hsrc h1 (by unfold maxLen; omega) (by omega) (by simp)
  rw [Nat.zero_add, List.nil_append] at ho
  have hbel : Below w.heap.size w w1 := hB.grown hg (by simp) (fun k hk => by simp [Value.ownBlock] at hk; omega)
  rcases ho.2 with ⟨_, h0⟩ | ⟨G, c, cur, hv, hGb, _⟩
  · omega
  subst hv
  have HR : Hid (Row w1 64 G c n xs) := row_of_owns ho
  have HB : Hid (Below w.heap.size w w1) := hbel
  have hgG : Hid (w.heap.size ≤ G) := hGb
  clear ho hg hbel hB hown hsrc h1 h hi hz0 hz1 hz2 hGb
  have heq := run_eql_slice
  go_enter Tryz.func43, Tryz.ntmps43
  go_wp2_with (at_builtin; refine wpl_append_run rfl _ _ 68 rfl _ _ rfl rfl hrun ?_)
  go_ret
  exact ⟨G, c, rfl, hgG.out, HR.out, HB.out⟩

/-- Tags of a new disk's blocks. -/
def tagP (tag : Nat → Nat) (N o D Q C L : Nat) : Nat → Nat := fun k => if k < N then tag k else if k = D then 16 * o + 1 else if k = Q then 16 * o + 2 else if k = C then 16 * o + 3 else if k = L then 16 * o + 4 else 0

set_option maxHeartbeats 1000000 in
theorem holding_ok (w0 w : World) (tag : Nat → Nat) (base o : Nat) (g cap n : Nat) (l : List Int) (hbase : base ≤ w0.heap.size) (hw : Below w0.heap.size w0 w) (hg : w0.heap.size ≤ g) (h : Row w 64 g cap n (bytesV l)) (hn : 1 ≤ n) (hn2 : n ≤ 4096) (hl : isBytes l) :
    Calls Tryz.prog 28 #[.slice (some ⟨g, 0, none⟩) n cap] w fun e w' => ∃ p tag', e = .returned (.pointer (some ⟨p.D, 0, none⟩)) ∧ PD w' tag' base o ⟨n, l, l, [], [], 0⟩ p ∧ (∀ k, k < w0.heap.size → tag' k = tag k) ∧ Below w0.heap.size w0 w' := by
  have hl' : l.length = n * 64 := by simpa using h.1
  have HL : Hid (l.length = n * 64) := hl'
  have HR : Hid (Row w 64 g cap n (bytesV l)) := h
  have HW : Hid (Below w0.heap.size w0 w) := hw
  have hR1 : Row (w.alloc (.cells #[.slice none 0 0, .int .i64 0] 129)) 64 g cap n (bytesV l) := h.later (below_alloc _ _)
  have HC := clone_ok _ g cap n (bytesV l) hR1 hn hn2 (ones_bytes l)
  clear hR1 hl' h hw
  go_enter Tryz.func28, Tryz.ntmps28
  go_wp2_with (go_at_call 43; refine HC.mono ?_; rintro e w3 ⟨G, c, rfl, hG, hRG, hB⟩)
  go_ret
  have hs0 := HW.out.size
  have hgl := HR.out.lt
  have hGl := hRG.lt
  have hB' : Below w.heap.size w w3 := (below_alloc w _).trans (hB.mono (by simp))
  have hs3 := hB'.size
  have hs4 := hB.size
  rw [World.size_alloc] at hG hs4
  refine ⟨⟨w3.heap.size, w.heap.size, g, G, cap, c, .slice none 0 0, .slice none 0 0⟩, tagP tag w0.heap.size o w3.heap.size w.heap.size g G, rfl, ?_, fun k hk => by simp [tagP, hk], (HW.out.trans (hB'.mono hs0)).alloc (by omega) _⟩
  have hb4 := below_alloc w3 (.cells #[.pointer (some ⟨w.heap.size, 0, none⟩), .func (.func 67) #[.pointer (some ⟨w.heap.size, 0, none⟩)] #[], .slice (some ⟨g, 0, none⟩) n cap, .slice (some ⟨G, 0, none⟩) n c, .slice none 0 0] 100)
  refine ⟨blk_new w3 _ _, ((blk_new w _ _).later hB).later hb4, (HR.out.later hB').later hb4, hRG.later hb4, win_nil _ _, win_nil _ _, ⟨?_, ?_⟩, ⟨?_, ?_⟩, ⟨?_, ?_⟩, ⟨?_, ?_⟩, fun g hg => by simp [Value.ownBlock] at hg, fun g hg => by simp [Value.ownBlock] at hg, ⟨hn, hn2, HL.out, HL.out, hl, hl, isBytes_nil, (fun x hx => by cases hx), rfl⟩⟩
  all_goals first
    | (show base ≤ _; dsimp only; omega)
    | (show tagP _ _ _ _ _ _ _ _ = _; dsimp only; unfold tagP; repeat (first | rw [if_pos rfl] | rw [if_neg (by omega)]))

set_option maxHeartbeats 400000 in
theorem new_no (w : World) (n : Int) (h : n < 1 ∨ 4096 < n) : Calls Tryz.prog 7 #[.int .i64 n] w fun e w' => e = .returned (.tuple #[.pointer none, .int .i64 1]) ∧ w' = w := by
  rcases h with h | h
  · go_enter Tryz.func7, Tryz.ntmps7
    go_wp2
    go_ret2
    exact ⟨rfl, rfl⟩
  · have h' : ¬ n < 1 := by omega
    go_enter Tryz.func7, Tryz.ntmps7
    go_wp2
    go_ret2
    exact ⟨rfl, rfl⟩

set_option maxHeartbeats 1000000 in
theorem new_ok (w : World) (tag : Nat → Nat) (base o n : Nat) (hbase : base ≤ w.heap.size) (h1 : 1 ≤ n) (h2 : n ≤ 4096) :
    Calls Tryz.prog 7 #[.int .i64 n] w fun e w' => ∃ p tag', e = .returned (.tuple #[.pointer (some ⟨p.D, 0, none⟩), .int .i64 0]) ∧ PD w' tag' base o (St.new n) p ∧ (∀ k, k < w.heap.size → tag' k = tag k) ∧ Below w.heap.size w w' := by
  obtain ⟨i0, hi, hz0, hz1, hz2⟩ := info_parts infoC'
  have h3 : ¬ (n : Int) < 1 := by omega
  have h4 : ¬ (4096 : Int) < n := by omega
  go_enter Tryz.func7, Tryz.ntmps7
  go_wp2_with (first
    | (at_make; refine wpList_make_full _ rfl _ _ 68 rfl w.heap.size 103 i0 zeroC 64 Tryz.underlying68 hi hz0 hz1 .i64 .i64 _ _ n rfl rfl rfl rfl (by rw [hz2]; omega) (by unfold maxLen; omega) (Nat.le_refl _) ?_; intro w1 hown hgrow)
    | (go_at_call 28; refine (holding_ok w w1 tag base o w.heap.size n n (zeros (n * 64)) hbase ((Below.refl _ _).grown hgrow (Nat.le_refl _) (fun k hk => by cases hk)) (Nat.le_refl _) (by have := row_of_owns hown; rwa [made_zeroC] at this) h1 h2 (isBytes_zeros _)).mono ?_; rintro e w2 ⟨p, tag', rfl, hP, hT, hB⟩))
  go_ret2
  exact ⟨p, tag', rfl, hP, hT, hB⟩

end Go.Proofs.YtafkkehcacdodaaGreat

namespace Go.Proofs.YtafkkehcacdodaaGreat
open Go.RowKit

/-- An entry as a value. -/
@[reducible] def enV (e : En) : Value := .agg #[.int .i64 e.kind, .int .i64 e.time, .int .u32 e.sub, .int .u32 e.addr, .int .i64 e.block]

@[reducible] def enC (e : En) : Array Value := #[.int .i64 e.kind, .int .i64 e.time, .int .u32 e.sub, .int .u32 e.addr, .int .i64 e.block]

theorem size_any (k : Int) (w : World) : Calls Tryz.prog 117 #[.int .i64 k] w fun x w' => x = .returned (.int .i64 (sizeK k)) ∧ w' = w := by
  by_cases k1 : k = 1
  · subst k1
    go_enter Tryz.func117, Tryz.ntmps117
    go_wp2
    go_ret
    exact ⟨rfl, rfl⟩
  by_cases k2 : k = 2
  · subst k2
    go_enter Tryz.func117, Tryz.ntmps117
    go_wp2
    go_ret
    exact ⟨rfl, rfl⟩
  by_cases k3 : k = 3
  · subst k3
    go_enter Tryz.func117, Tryz.ntmps117
    go_wp2
    go_ret
    exact ⟨rfl, rfl⟩
  have E : Hid (sizeK k = 0) := by show sizeK k = 0; unfold sizeK; rw [if_neg k1, if_neg k2, if_neg k3]
  go_enter Tryz.func117, Tryz.ntmps117
  go_wp2
  go_ret
  exact ⟨by rw [E.out]; rfl, rfl⟩

theorem rsize_any (k : Int) (w : World) : Calls Tryz.prog 76 #[.int .i64 k] w fun x w' => x = .returned (.int .i64 (sizeK k)) ∧ w' = w := by
  by_cases k1 : k = 1
  · subst k1
    go_enter Tryz.func76, Tryz.ntmps76
    go_wp2
    go_ret
    exact ⟨rfl, rfl⟩
  by_cases k2 : k = 2
  · subst k2
    go_enter Tryz.func76, Tryz.ntmps76
    go_wp2
    go_ret
    exact ⟨rfl, rfl⟩
  by_cases k3 : k = 3
  · subst k3
    go_enter Tryz.func76, Tryz.ntmps76
    go_wp2
    go_ret
    exact ⟨rfl, rfl⟩
  have E : Hid (sizeK k = 0) := by show sizeK k = 0; unfold sizeK; rw [if_neg k1, if_neg k2, if_neg k3]
  go_enter Tryz.func76, Tryz.ntmps76
  go_wp2
  go_ret
  exact ⟨by rw [E.out]; rfl, rfl⟩

/-- What the first look says. -/
def whyM (l : List Int) : Int :=
  if l.length = 0 then 2
  else if sizeK (b1 l 0) = 0 then 4
  else if (l.length : Int) < sizeK (b1 l 0) then 2
  else if sizeK (b1 l 0) < (l.length : Int) then 3
  else 0

set_option maxHeartbeats 400000 in
theorem measured_any (a : Option Addr) (b off len cap : Nat) (l : List Int) (w : World) (hc : len ≤ maxLen) (hL : l.length = len) (hb : isBytes l)
    (ha : a = some ⟨b, off, none⟩ ∨ l = []) (hs : Sees w b off l) :
    Calls Tryz.prog 96 #[.slice a len cap] w fun x w' => x = .returned (.int .i64 (whyM l)) ∧ w' = w := by
  unfold maxLen at hc
  rcases Nat.eq_zero_or_pos len with h0 | h0
  · subst h0
    have E : Hid (whyM l = 2) := by show whyM l = 2; unfold whyM; rw [if_pos hL]
    clear hL
    go_enter Tryz.func96, Tryz.ntmps96
    go_wp2
    go_ret
    exact ⟨by rw [E.out]; rfl, rfl⟩
  rcases ha with rfl | hnil
  case inr => subst hnil; simp at hL; omega
  have hcell : w.cell? ⟨b, off, none⟩ = some (.int .u8 (b1 l 0)) := by have := hs 0 (by omega); rwa [Nat.add_zero] at this
  have hbd := b1_bd l hb 0
  have E : Hid (whyM l = if sizeK (b1 l 0) = 0 then 4 else if (len : Int) < sizeK (b1 l 0) then 2 else if sizeK (b1 l 0) < (len : Int) then 3 else 0) := by
    show whyM l = _; unfold whyM; rw [hL, if_neg (by omega)]
  generalize b1 l 0 = c at *
  have hS : ∀ W, Calls Tryz.prog 117 #[.int .i64 c] W fun x w' => x = .returned (.int .i64 (sizeK c)) ∧ w' = W := fun W => size_any c W
  have hsz : sizeK c = 0 ∨ 0 < sizeK c := by unfold sizeK; split; · omega
                                             split; · omega
                                             split <;> omega
  have hsm : sizeK c ≤ 19 := by unfold sizeK; split; · omega
                                split; · omega
                                split <;> omega
  generalize sizeK c = n at *
  clear hL hs hb
  rcases hsz with hn | hn
  · subst hn
    go_enter Tryz.func96, Tryz.ntmps96
    go_wp2_with fail
    refine (hS _).mono ?_
    rintro e w1 ⟨rfl, rfl⟩
    go_wp2
    go_ret
    exact ⟨by rw [E.out]; rfl, rfl⟩
  have hn0 : n ≠ 0 := by omega
  by_cases h1 : (len : Int) < n
  · have E' : Hid (whyM l = 2) := by show whyM l = 2; rw [E.out, if_neg hn0, if_pos h1]
    clear E
    go_enter Tryz.func96, Tryz.ntmps96
    go_wp2_with fail
    refine (hS _).mono ?_
    rintro e w1 ⟨rfl, rfl⟩
    go_wp2
    go_ret
    exact ⟨by rw [E'.out]; rfl, rfl⟩
  by_cases h2 : n < (len : Int)
  · have E' : Hid (whyM l = 3) := by show whyM l = 3; rw [E.out, if_neg hn0, if_neg h1, if_pos h2]
    clear E
    go_enter Tryz.func96, Tryz.ntmps96
    go_wp2_with fail
    refine (hS _).mono ?_
    rintro e w1 ⟨rfl, rfl⟩
    go_wp2
    go_ret
    exact ⟨by rw [E'.out]; rfl, rfl⟩
  have E' : Hid (whyM l = 0) := by show whyM l = 0; rw [E.out, if_neg hn0, if_neg h1, if_neg h2]
  clear E
  go_enter Tryz.func96, Tryz.ntmps96
  go_wp2_with fail
  refine (hS _).mono ?_
  rintro e w1 ⟨rfl, rfl⟩
  go_wp2
  go_ret
  exact ⟨by rw [E'.out]; rfl, rfl⟩

end Go.Proofs.YtafkkehcacdodaaGreat

namespace Go.Proofs.YtafkkehcacdodaaGreat
open Go.RowKit

theorem mayB_true {e : En} (h : e.May) : mayB e = true := decide_eq_true h
theorem mayB_false {e : En} (h : ¬ e.May) : mayB e = false := decide_eq_false h

set_option maxHeartbeats 1000000 in
theorem may_any (k t s a b : Int) (w : World) :
    Calls Tryz.prog 68 #[enV ⟨k, t, s, a, b⟩] w fun x w' => x = .returned (.bool (mayB ⟨k, t, s, a, b⟩)) ∧ Below w.heap.size w w' := by
  have hbl := below_alloc w (.cells (enC ⟨k, t, s, a, b⟩) 73)
  by_cases h0 : 0 ≤ t
  case neg =>
    have E : Hid (mayB ⟨k, t, s, a, b⟩ = false) := mayB_false (fun h => h0 h.time0)
    go_enter Tryz.func68, Tryz.ntmps68
    go_wp2
    go_ret
    exact ⟨ret_bool E.out.symm, hbl⟩
  by_cases h1 : t ≤ 1099511627776
  case neg =>
    have E : Hid (mayB ⟨k, t, s, a, b⟩ = false) := mayB_false (fun h => h1 h.time1)
    go_enter Tryz.func68, Tryz.ntmps68
    go_wp2
    go_ret
    exact ⟨ret_bool E.out.symm, hbl⟩
  by_cases hk : k = 1 ∨ k = 2 ∨ k = 3
  case neg =>
    have E : Hid (mayB ⟨k, t, s, a, b⟩ = false) := mayB_false (fun h => hk (by rcases h.kind with ⟨h, _⟩ | ⟨h, _⟩ | ⟨h, _⟩ <;> (dsimp only at h; omega)))
    have k1 : k ≠ 1 := by omega
    have k2 : k ≠ 2 := by omega
    have k3 : k ≠ 3 := by omega
    clear hk
    by_cases b0 : 0 ≤ b
    all_goals
      go_enter Tryz.func68, Tryz.ntmps68
      go_wp2
      go_ret
      exact ⟨ret_bool E.out.symm, hbl⟩
  rcases hk with rfl | rfl | rfl
  · by_cases hz : s = 0 ∧ a = 0 ∧ b = 0
    · obtain ⟨rfl, rfl, rfl⟩ := hz
      have E : Hid (mayB ⟨1, t, 0, 0, 0⟩ = true) := mayB_true ⟨h0, h1, .inl ⟨rfl, rfl, rfl, rfl⟩⟩
      go_enter Tryz.func68, Tryz.ntmps68
      go_wp2
      go_ret
      exact ⟨ret_bool E.out.symm, hbl⟩
    · have E : Hid (mayB ⟨1, t, s, a, b⟩ = false) := mayB_false (fun h => hz (by rcases h.kind with ⟨_, h⟩ | ⟨h, _⟩ | ⟨h, _⟩ <;> simp_all))
      by_cases s0 : s = 0
      · subst s0
        by_cases a0 : a = 0
        · subst a0
          have b0 : b ≠ 0 := fun h => hz ⟨rfl, rfl, h⟩
          clear hz
          by_cases b1 : 0 ≤ b
          all_goals
            go_enter Tryz.func68, Tryz.ntmps68
            go_wp2
            go_ret
            exact ⟨ret_bool E.out.symm, hbl⟩
        · clear hz
          by_cases b1 : 0 ≤ b
          all_goals
            go_enter Tryz.func68, Tryz.ntmps68
            go_wp2
            go_ret
            exact ⟨ret_bool E.out.symm, hbl⟩
      · clear hz
        by_cases b1 : 0 ≤ b
        all_goals
          go_enter Tryz.func68, Tryz.ntmps68
          go_wp2
          go_ret
          exact ⟨ret_bool E.out.symm, hbl⟩
  · by_cases b0 : 0 ≤ b
    · by_cases b1 : b ≤ 65535
      · have E : Hid (mayB ⟨2, t, s, a, b⟩ = true) := mayB_true ⟨h0, h1, .inr (.inl ⟨rfl, b0, b1⟩)⟩
        go_enter Tryz.func68, Tryz.ntmps68
        go_wp2
        go_ret
        exact ⟨ret_bool E.out.symm, hbl⟩
      · have E : Hid (mayB ⟨2, t, s, a, b⟩ = false) := mayB_false (fun h => b1 (by rcases h.kind with ⟨h, _⟩ | ⟨_, _, h⟩ | ⟨h, _⟩ <;> first | exact h | (dsimp only at h; omega)))
        go_enter Tryz.func68, Tryz.ntmps68
        go_wp2
        go_ret
        exact ⟨ret_bool E.out.symm, hbl⟩
    · have E : Hid (mayB ⟨2, t, s, a, b⟩ = false) := mayB_false (fun h => b0 (by rcases h.kind with ⟨h, _⟩ | ⟨_, h, _⟩ | ⟨h, _⟩ <;> first | exact h | (dsimp only at h; omega)))
      go_enter Tryz.func68, Tryz.ntmps68
      go_wp2
      go_ret
      exact ⟨ret_bool E.out.symm, hbl⟩
  · by_cases b0 : 0 ≤ b
    · by_cases b1 : b ≤ 65535
      · by_cases s0 : s = 0
        · subst s0
          have E : Hid (mayB ⟨3, t, 0, a, b⟩ = true) := mayB_true ⟨h0, h1, .inr (.inr ⟨rfl, b0, b1, rfl⟩)⟩
          go_enter Tryz.func68, Tryz.ntmps68
          go_wp2
          go_ret
          exact ⟨ret_bool E.out.symm, hbl⟩
        · have E : Hid (mayB ⟨3, t, s, a, b⟩ = false) := mayB_false (fun h => s0 (by rcases h.kind with ⟨h, _⟩ | ⟨h, _, _⟩ | ⟨_, _, _, h⟩ <;> first | exact h | (dsimp only at h; omega)))
          have s1 : (s == 0) = false := by simp [s0]
          go_enter Tryz.func68, Tryz.ntmps68
          go_wp2
          go_ret
          exact ⟨ret_bool E.out.symm, hbl⟩
      · have E : Hid (mayB ⟨3, t, s, a, b⟩ = false) := mayB_false (fun h => b1 (by rcases h.kind with ⟨h, _⟩ | ⟨h, _, _⟩ | ⟨_, _, h, _⟩ <;> first | exact h | (dsimp only at h; omega)))
        go_enter Tryz.func68, Tryz.ntmps68
        go_wp2
        go_ret
        exact ⟨ret_bool E.out.symm, hbl⟩
    · have E : Hid (mayB ⟨3, t, s, a, b⟩ = false) := mayB_false (fun h => b0 (by rcases h.kind with ⟨h, _⟩ | ⟨h, _, _⟩ | ⟨_, h, _, _⟩ <;> first | exact h | (dsimp only at h; omega)))
      go_enter Tryz.func68, Tryz.ntmps68
      go_wp2
      go_ret
      exact ⟨ret_bool E.out.symm, hbl⟩

set_option maxHeartbeats 400000 in
theorem echeck_any (e : En) (w : World) :
    Calls Tryz.prog 29 #[enV e] w fun x w' => x = .returned (.int .i64 (checkE e)) ∧ Below w.heap.size w w' := by
  obtain ⟨k, t, s, a, b⟩ := e
  unfold checkE
  have H := fun w => may_any k t s a b w
  cases hm : mayB ⟨k, t, s, a, b⟩
  all_goals
    rw [hm] at H
    go_enter Tryz.func29, Tryz.ntmps29
    go_wp2_with fail
    refine (H _).mono ?_
    rintro e w1 ⟨rfl, hb⟩
    go_wp2
    go_ret
    exact ⟨rfl, by first | exact hb | exact below_trans (below_alloc _ _) hb⟩

set_option maxHeartbeats 1000000 in
theorem rcheck_any (e : En) (w : World) :
    Calls Tryz.prog 85 #[enV e] w fun x w' => x = .returned (.int .i64 (checkE e)) ∧ Below w.heap.size w w' := by
  obtain ⟨k, t, s, a, b⟩ := e
  have hbl := below_alloc w (.cells (enC ⟨k, t, s, a, b⟩) 73)
  by_cases hm : En.May ⟨k, t, s, a, b⟩
  · have E : Hid (checkE ⟨k, t, s, a, b⟩ = 0) := by show checkE _ = 0; unfold checkE; rw [mayB_true hm]; rfl
    obtain ⟨h0, h1, h2⟩ := hm
    dsimp only at h0 h1 h2
    rcases h2 with ⟨rfl, rfl, rfl, rfl⟩ | ⟨rfl, b0, b1⟩ | ⟨rfl, b0, b1, rfl⟩
    all_goals
      go_enter Tryz.func85, Tryz.ntmps85
      go_wp2
      go_ret
      exact ⟨by rw [E.out]; rfl, hbl⟩
  · have E : Hid (checkE ⟨k, t, s, a, b⟩ = 1) := by show checkE _ = 1; unfold checkE; rw [mayB_false hm]; rfl
    have hn : ¬ ((0 ≤ t ∧ t ≤ 1099511627776) ∧ ((k = 1 ∧ s = 0 ∧ a = 0 ∧ b = 0) ∨ (k = 2 ∧ 0 ≤ b ∧ b ≤ 65535) ∨ (k = 3 ∧ 0 ≤ b ∧ b ≤ 65535 ∧ s = 0))) := fun h => hm ((may_iff _).2 h)
    clear hm
    by_cases h0 : 0 ≤ t
    case neg =>
      clear hn
      go_enter Tryz.func85, Tryz.ntmps85
      go_wp2
      go_ret
      exact ⟨by rw [E.out]; rfl, hbl⟩
    by_cases h1 : t ≤ 1099511627776
    case neg =>
      clear hn
      go_enter Tryz.func85, Tryz.ntmps85
      go_wp2
      go_ret
      exact ⟨by rw [E.out]; rfl, hbl⟩
    by_cases k1 : k = 1
    · subst k1
      by_cases s0 : s = 0
      · by_cases a0 : a = 0
        · have b0 : b ≠ 0 := by omega
          have b2 : (b == 0) = false := beq_false_of_ne b0
          clear b0
          clear hn
          subst s0 a0
          go_enter Tryz.func85, Tryz.ntmps85
          go_wp2
          go_ret
          exact ⟨by rw [E.out]; rfl, hbl⟩
        · clear hn
          subst s0
          go_enter Tryz.func85, Tryz.ntmps85
          go_wp2
          go_ret
          exact ⟨by rw [E.out]; rfl, hbl⟩
      · clear hn
        go_enter Tryz.func85, Tryz.ntmps85
        go_wp2
        go_ret
        exact ⟨by rw [E.out]; rfl, hbl⟩
    by_cases k2 : k = 2
    · subst k2
      by_cases b0 : 0 ≤ b
      · have b1 : ¬ b ≤ 65535 := by omega
        clear hn
        go_enter Tryz.func85, Tryz.ntmps85
        go_wp2
        go_ret
        exact ⟨by rw [E.out]; rfl, hbl⟩
      · clear hn
        go_enter Tryz.func85, Tryz.ntmps85
        go_wp2
        go_ret
        exact ⟨by rw [E.out]; rfl, hbl⟩
    by_cases k3 : k = 3
    · subst k3
      by_cases b0 : 0 ≤ b
      · by_cases b1 : b ≤ 65535
        · have s0 : s ≠ 0 := by omega
          have s2 : (s == 0) = false := beq_false_of_ne s0
          clear s0
          clear hn
          go_enter Tryz.func85, Tryz.ntmps85
          go_wp2
          go_ret
          exact ⟨by rw [E.out]; rfl, hbl⟩
        · clear hn
          go_enter Tryz.func85, Tryz.ntmps85
          go_wp2
          go_ret
          exact ⟨by rw [E.out]; rfl, hbl⟩
      · clear hn
        go_enter Tryz.func85, Tryz.ntmps85
        go_wp2
        go_ret
        exact ⟨by rw [E.out]; rfl, hbl⟩
    clear hn
    go_enter Tryz.func85, Tryz.ntmps85
    go_wp2
    go_ret
    exact ⟨by rw [E.out]; rfl, hbl⟩

end Go.Proofs.YtafkkehcacdodaaGreat

namespace Go.Proofs.YtafkkehcacdodaaGreat
open Go.RowKit

/-- The writer's six cells. -/
@[reducible] def wtC (e : En) (v : Value) : Array Value := #[.int .i64 e.kind, .int .i64 e.time, .int .u32 e.sub, .int .u32 e.addr, .int .i64 e.block, v]

/-- A writer: the entry, and the bytes that it has laid, in memory from B on. -/
structure Wtr (w : World) (S B : Nat) (e : En) (v : Value) (l : List Int) : Prop where
  row : w.heap[S]? = some (.cells (wtC e v) 175 (0, 0))
  out : Owns w B v l
  lo : S < B
  hi : B ≤ w.heap.size
  len : l.length ≤ 100

/-- All below B stays, the writer aside. -/
structure Kp (S B : Nat) (w w' : World) : Prop where
  below : Below S w w'
  keep : ∀ k, S < k → k < B → w'.heap[k]? = w.heap[k]?

theorem Kp.trans {S B : Nat} {a b c : World} (h : Kp S B a b) (k : Kp S B b c) : Kp S B a c := ⟨h.below.trans k.below, fun j h1 h2 => (k.keep j h1 h2).trans (h.keep j h1 h2)⟩

theorem Owns.under {w : World} {base S j : Nat} {u v : Value} {l : List Int} (h : Owns w base v l) (hS : S < base) : Owns (w.setCell ⟨S, j, none⟩ u) base v l := by
  refine ⟨h.1, ?_⟩
  rcases h.2 with h' | ⟨g, cap, cur, h1, h2, h3, h4⟩
  · exact .inl h'
  · exact .inr ⟨g, cap, cur, h1, h2, by rw [heap_setCell_other w ⟨S, j, none⟩ g u (by show g ≠ S; omega)]; exact h3, h4⟩

theorem Wtr.lt {w : World} {S B : Nat} {e : En} {v : Value} {l : List Int} (h : Wtr w S B e v l) : S < w.heap.size := (Array.getElem?_eq_some_iff.1 h.row).1

theorem Wtr.cell {w : World} {S B : Nat} {e : En} {v : Value} {l : List Int} (h : Wtr w S B e v l) (j : Nat) : w.cell? ⟨S, j, none⟩ = (wtC e v)[j]? := cell_of_row w S j _ _ _ h.row

theorem Wtr.frozen {w : World} {S B : Nat} {e : En} {v : Value} {l : List Int} (h : Wtr w S B e v l) (j : Nat) : w.frozen? ⟨S, j, none⟩ = false := frozen_of_row w S j _ _ h.row

theorem replicate_cells (n : Nat) : (madeCells #[Value.int .u8 0] n).toList = (List.replicate n 0).map (Value.int .u8) := by
  simp only [madeCells, List.map_replicate]
  simp
  apply List.eq_replicate_iff.2
  refine ⟨by simp, ?_⟩
  intro b hb
  obtain ⟨k, _, rfl⟩ := List.mem_map.1 hb
  rw [Nat.mod_one]
  rfl

theorem Wtr.later {w w' : World} {S B : Nat} {e : En} {v : Value} {l : List Int} (h : Wtr w S B e v l) (hb : Below w.heap.size w w') : Wtr w' S B e v l :=
  ⟨(hb.block S h.lt).trans h.row, h.out.later hb, h.lo, Nat.le_trans h.hi hb.size, h.len⟩

theorem owns_shape {w : World} {base : Nat} {v : Value} {l : List Int} (h : Owns w base v l) : ∃ a c, v = .slice a l.length c := by
  rcases h.2 with ⟨rfl, h0⟩ | ⟨g, cap, cur, rfl, _⟩
  · exact ⟨none, 0, by rw [h0]⟩
  · exact ⟨_, _, rfl⟩

/-- The writer's bytes are brought along. -/
theorem Wtr.put {w w1 : World} {S B : Nat} {e : En} {v v' : Value} {l l' : List Int} (h : Wtr w S B e v l) (ho : Owns w1 B v' l') (hb : Below B w w1) (hl : l'.length ≤ 100) : Wtr (w1.setCell ⟨S, 5, none⟩ v') S B e v' l' := by
  have hr : w1.heap[S]? = some (.cells (wtC e v) 175 (0, 0)) := (hb.block S h.lo).trans h.row
  refine ⟨?_, ho.under h.lo, h.lo, by have := hb.size; have := h.hi; simp [World.setCell]; omega, hl⟩
  rw [heap_setCell_same w1 S 5 _ _ v' hr]
  rfl

set_option maxHeartbeats 2000000 in
theorem put_any (S B : Nat) (e : En) (v : Value) (l : List Int) (q : Int) (n : Nat) (x : Int) (w : World) (hW : Wtr w S B e v l) (hq : q = (n : Int)) (h1 : 1 ≤ n) (h2 : n ≤ 8) (hx0 : 0 ≤ x) (hx1 : x < 18446744073709551616) (hl : l.length ≤ 92) :
    Calls Tryz.prog 143 #[.pointer (some ⟨S, 0, none⟩), .int .i64 q, .int .u64 x] w fun r w' => r = .returned (.tuple #[]) ∧ ∃ v', Wtr w' S B e v' (l ++ bigE n x) ∧ Kp S B w w' := by
  subst hq
  obtain ⟨i0, hi, hz0, hz1, hz2⟩ := info_parts info5
  have hS := hW.lt
  go_enter Tryz.func143, Tryz.ntmps143
  go_wp2_with (at_make; refine wpList_make_full _ rfl _ _ 39 rfl w.heap.size 5 i0 (.int .u8 0) 1 Tryz.underlying39 hi hz0 hz1 .i64 .i64 _ _ n rfl rfl rfl rfl (by rw [hz2]; omega) (by unfold maxLen; omega) (Nat.le_refl _) ?_)
  intro w1 hown hgrow
  rw [replicate_cells] at hown
  have hb1 : Below w.heap.size w w1 := (Below.refl _ _).grown hgrow (Nat.le_refl _) (fun k hk => by cases hk)
  have hO : Owns w1 w.heap.size (.slice (some ⟨w.heap.size, 0, none⟩) n n) (List.replicate n 0) := by unfold Owns; rw [List.length_replicate]; exact hown
  have hH := holds8_mk hO (by simp)
  have hs1 : Sees w1 w.heap.size 0 (List.replicate n 0) := by
    intro i hi'; rw [Nat.zero_add]; exact hH.cell i (by simpa using hi')
  clear hown hgrow hO hH
  go_wp2_with fail
  refine (put_yes3 w.heap.size 0 n n (List.replicate n 0) 0 0 n n x _ rfl rfl (by simp) hs1 h1 h2 (by omega) hx0 hx1 (by omega)).mono ?_
  rintro r w2 ⟨G, rfl, hH2, hb2⟩
  rw [lay_zero] at hH2
  have hb02 := hb1.trans (hb2.mono hb1.size)
  have hW2 := hW.later hb02
  have hBt : Bts w2 (.slice (some ⟨G, 0, none⟩) n n) (bigE n x) := by have := hH2.owns.bts (bigE_bytes n x); rwa [← bigE_length n x] at this ⊢
  have hS2 := hW2.lt
  obtain ⟨v', w3, hrun, ho3, hb3⟩ := append_bts w2 B v _ l _ hW2.out hBt hW2.hi (by rw [bigE_length]; omega)
  obtain ⟨va, vc, hv⟩ := owns_shape ho3
  obtain ⟨N, hN⟩ : ∃ N, N = (l ++ bigE n x).length := ⟨_, rfl⟩
  rw [← hN] at hv
  subst hv
  clear hN
  obtain ⟨ua, uc, rfl⟩ := owns_shape hW2.out
  have hW3 := hW2.put ho3 hb3 (by rw [List.length_append, bigE_length]; omega)
  have hSB := hW2.lo
  have hBw := hW.hi
  have hBa : Below S w w2 := hb02.mono (Nat.le_of_lt hS)
  have hBb : Below S w2 w3 := hb3.mono (Nat.le_of_lt hSB)
  have hB : Kp S B w (w3.setCell ⟨S, 5, none⟩ (.slice va N vc)) := ⟨(hBa.trans hBb).setCell (Nat.le_refl _) _, fun k h1 h2 => by
    rw [heap_setCell_other w3 ⟨S, 5, none⟩ k _ (by show k ≠ S; omega), hb3.block k h2, hb02.block k (by omega)]⟩
  have hc5 : w2.cell? ⟨S, 5, none⟩ = some (.slice ua l.length uc) := hW2.cell 5
  have hf5 : w3.frozen? ⟨S, 5, none⟩ = false := by rw [hb3.frozen (p := ⟨S, 5, none⟩) hSB]; exact hW2.frozen 5
  have hc5' : w3.cell? ⟨S, 5, none⟩ = some (.slice ua l.length uc) := by rw [hb3.cell (p := ⟨S, 5, none⟩) hSB]; exact hc5
  clear hBa hBb hSB hBw hs1 hb1 hb2 hb02 hBt hH2 hW hW2 ho3 hb3
  go_wp2_with (at_builtin; refine wpl_append_run rfl _ _ 39 rfl _ _ rfl rfl hrun ?_)
  refine bodyPost_end (results_none rfl _ _ _) rfl ?_
  exact ⟨rfl, _, hW3, hB⟩

set_option maxHeartbeats 1000000 in
theorem kind_m (S B : Nat) (e : En) (v : Value) (l : List Int) (w : World) (hW : Wtr w S B e v l) (h0 : 0 ≤ e.kind) (h1 : e.kind < 9223372036854775808) (hl : l.length ≤ 92) :
    Calls Tryz.prog 121 #[.pointer (some ⟨S, 0, none⟩)] w fun r w' => r = .returned (.tuple #[]) ∧ ∃ v', Wtr w' S B e v' (l ++ bigE 1 e.kind) ∧ Kp S B w w' := by
  have hc : w.cell? ⟨S, 0, none⟩ = some (.int .i64 e.kind) := hW.cell 0
  have H := put_any S B e v l 1 1 e.kind w hW rfl (by decide) (by decide) h0 (by omega) hl
  have hu : IntKind.u64.wrap e.kind = e.kind := u64_id _ h0 (by omega)
  generalize e.kind = x at *
  clear hW
  go_enter Tryz.func121, Tryz.ntmps121
  go_wp2_with fail
  refine H.mono ?_
  rintro r w1 ⟨rfl, v', hW', hb⟩
  go_wp2
  refine bodyPost_end (results_none rfl _ _ _) rfl ?_
  exact ⟨rfl, v', hW', hb⟩

set_option maxHeartbeats 1000000 in
theorem time_m (S B : Nat) (e : En) (v : Value) (l : List Int) (w : World) (hW : Wtr w S B e v l) (h0 : 0 ≤ e.time) (h1 : e.time < 9223372036854775808) (hl : l.length ≤ 92) :
    Calls Tryz.prog 122 #[.pointer (some ⟨S, 0, none⟩)] w fun r w' => r = .returned (.tuple #[]) ∧ ∃ v', Wtr w' S B e v' (l ++ bigE 8 e.time) ∧ Kp S B w w' := by
  have hc : w.cell? ⟨S, 1, none⟩ = some (.int .i64 e.time) := hW.cell 1
  have H := put_any S B e v l 8 8 e.time w hW rfl (by decide) (by decide) h0 (by omega) hl
  have hu : IntKind.u64.wrap e.time = e.time := u64_id _ h0 (by omega)
  generalize e.time = x at *
  clear hW
  go_enter Tryz.func122, Tryz.ntmps122
  go_wp2_with fail
  refine H.mono ?_
  rintro r w1 ⟨rfl, v', hW', hb⟩
  go_wp2
  refine bodyPost_end (results_none rfl _ _ _) rfl ?_
  exact ⟨rfl, v', hW', hb⟩

set_option maxHeartbeats 1000000 in
theorem sub_m (S B : Nat) (e : En) (v : Value) (l : List Int) (w : World) (hW : Wtr w S B e v l) (h0 : 0 ≤ e.sub) (h1 : e.sub < 9223372036854775808) (hl : l.length ≤ 92) :
    Calls Tryz.prog 123 #[.pointer (some ⟨S, 0, none⟩)] w fun r w' => r = .returned (.tuple #[]) ∧ ∃ v', Wtr w' S B e v' (l ++ bigE 4 e.sub) ∧ Kp S B w w' := by
  have hc : w.cell? ⟨S, 2, none⟩ = some (.int .u32 e.sub) := hW.cell 2
  have H := put_any S B e v l 4 4 e.sub w hW rfl (by decide) (by decide) h0 (by omega) hl
  have hu : IntKind.u64.wrap e.sub = e.sub := u64_id _ h0 (by omega)
  generalize e.sub = x at *
  clear hW
  go_enter Tryz.func123, Tryz.ntmps123
  go_wp2_with fail
  refine H.mono ?_
  rintro r w1 ⟨rfl, v', hW', hb⟩
  go_wp2
  refine bodyPost_end (results_none rfl _ _ _) rfl ?_
  exact ⟨rfl, v', hW', hb⟩

set_option maxHeartbeats 1000000 in
theorem addr_m (S B : Nat) (e : En) (v : Value) (l : List Int) (w : World) (hW : Wtr w S B e v l) (h0 : 0 ≤ e.addr) (h1 : e.addr < 9223372036854775808) (hl : l.length ≤ 92) :
    Calls Tryz.prog 124 #[.pointer (some ⟨S, 0, none⟩)] w fun r w' => r = .returned (.tuple #[]) ∧ ∃ v', Wtr w' S B e v' (l ++ bigE 4 e.addr) ∧ Kp S B w w' := by
  have hc : w.cell? ⟨S, 3, none⟩ = some (.int .u32 e.addr) := hW.cell 3
  have H := put_any S B e v l 4 4 e.addr w hW rfl (by decide) (by decide) h0 (by omega) hl
  have hu : IntKind.u64.wrap e.addr = e.addr := u64_id _ h0 (by omega)
  generalize e.addr = x at *
  clear hW
  go_enter Tryz.func124, Tryz.ntmps124
  go_wp2_with fail
  refine H.mono ?_
  rintro r w1 ⟨rfl, v', hW', hb⟩
  go_wp2
  refine bodyPost_end (results_none rfl _ _ _) rfl ?_
  exact ⟨rfl, v', hW', hb⟩

set_option maxHeartbeats 1000000 in
theorem block_m (S B : Nat) (e : En) (v : Value) (l : List Int) (w : World) (hW : Wtr w S B e v l) (h0 : 0 ≤ e.block) (h1 : e.block < 9223372036854775808) (hl : l.length ≤ 92) :
    Calls Tryz.prog 125 #[.pointer (some ⟨S, 0, none⟩)] w fun r w' => r = .returned (.tuple #[]) ∧ ∃ v', Wtr w' S B e v' (l ++ bigE 2 e.block) ∧ Kp S B w w' := by
  have hc : w.cell? ⟨S, 4, none⟩ = some (.int .i64 e.block) := hW.cell 4
  have H := put_any S B e v l 2 2 e.block w hW rfl (by decide) (by decide) h0 (by omega) hl
  have hu : IntKind.u64.wrap e.block = e.block := u64_id _ h0 (by omega)
  generalize e.block = x at *
  clear hW
  go_enter Tryz.func125, Tryz.ntmps125
  go_wp2_with fail
  refine H.mono ?_
  rintro r w1 ⟨rfl, v', hW', hb⟩
  go_wp2
  refine bodyPost_end (results_none rfl _ _ _) rfl ?_
  exact ⟨rfl, v', hW', hb⟩

end Go.Proofs.YtafkkehcacdodaaGreat

namespace Go.Proofs.YtafkkehcacdodaaGreat
open Go.RowKit

/-- A reader: what is left of the bytes, from place p on. -/
def Rd9 (w : World) (R b off len cap p : Nat) : Prop :=
  ∃ o, w.heap[R]? = some (.cells #[.slice (some ⟨b, o, none⟩) (len - p) (cap - p)] 163 (0, 0)) ∧ (o = off + p ∨ len = p)

theorem sees_drop {w : World} {b off : Nat} {l : List Int} (h : Sees w b off l) (p : Nat) : Sees w b (off + p) (l.drop p) := by
  intro i hi
  have hi' : p + i < l.length := by simp at hi; omega
  have e : (l.drop p).getD i 0 = l.getD (p + i) 0 := by simp [List.getD]
  rw [e, Nat.add_assoc]
  exact h (p + i) hi'

theorem slice_on (b off len cap : Nat) (x : Int) (p : Nat) (hx : x = (p : Int)) (hp : p ≤ len) (hc : len ≤ cap) :
    ∃ o, (∀ W, (Instr.slice 39 (.slice (some ⟨b, off, none⟩) len cap) (some (.int .i64 x)) none none).run Tryz.prog W = .ok (.slice (some ⟨b, o, none⟩) (len - p) (cap - p)) W) ∧ (o = off + p ∨ len = p) := by
  subst hx
  have ht' : Tryz.prog.underlying 39 = some (.slice (Tryz.prog.elem 39)) := by simp [Program.elem, Tryz.underlying39]
  have he : Tryz.prog.elem 39 = 5 := by simp [Program.elem, Tryz.underlying39]
  refine ⟨if cap = p then off else off + p, fun W => ?_, ?_⟩
  · rw [run_slice_l W 39 _ _ _ ht' .i64 _ (by omega) (by omega), he, Tryz.sizeOf5]
    by_cases hc : cap = p
    · simp [Result.andThen, sliced, hc]
    · simp [Result.andThen, sliced, hc, add_at]
  · by_cases hc : cap = p
    · right; omega
    · left; rw [if_neg hc]

set_option maxHeartbeats 1000000 in
theorem take_any (R b off len cap p n : Nat) (q : Int) (l : List Int) (w : World) (hR : Rd9 w R b off len cap p) (hA : At w b off len cap l) (hq : q = (n : Int)) (h1 : 1 ≤ n) (h2 : n ≤ 8) (h3 : p + n ≤ len) :
    Calls Tryz.prog 97 #[.pointer (some ⟨R, 0, none⟩), .int .i64 q] w fun r w' => r = .returned (.int .u64 (num ((l.drop p).take n))) ∧ Rd9 w' R b off len cap (p + n) ∧ ∃ V, w' = w.setCell ⟨R, 0, none⟩ V := by
  subst hq
  obtain ⟨o, hrow, ho⟩ := hR
  have ho : o = off + p := by omega
  subst ho
  have hc1 := hA.cap1
  have hc2 := hA.cap2
  have hg := get_yes b (off + p) (len - p) (cap - p) (l.drop p) 0 n w (by omega) (by omega) (by omega) (by rw [List.length_drop, hA.len]) (fun z hz => hA.bytes z (List.mem_of_mem_drop hz)) (sees_drop hA.sees p) h1 h2 (by omega)
  rw [List.drop_zero] at hg
  obtain ⟨o2, hsl, ho2⟩ := slice_on b (off + p) (len - p) (cap - p) n n rfl (by omega) (by omega)
  have hcell : w.cell? ⟨R, 0, none⟩ = some (.slice (some ⟨b, off + p, none⟩) (len - p) (cap - p)) := cell_of_row w R 0 _ _ _ hrow
  have hfr : w.frozen? ⟨R, 0, none⟩ = false := frozen_of_row w R 0 _ _ hrow
  have hR' : Rd9 (w.setCell ⟨R, 0, none⟩ (.slice (some ⟨b, o2, none⟩) (len - p - n) (cap - p - n))) R b off len cap (p + n) := by
    refine ⟨o2, ?_, by omega⟩
    rw [heap_setCell_same w R 0 _ _ _ hrow, Nat.sub_sub, Nat.sub_sub]
    rfl
  generalize num ((l.drop p).take n) = x at *
  generalize len - p = m at *
  generalize cap - p = c at *
  clear hA hrow
  go_enter Tryz.func97, Tryz.ntmps97
  go_wp2_with fail
  refine hg.mono ?_
  rintro r w1 ⟨rfl, rfl⟩
  go_wp2
  go_ret
  exact ⟨rfl, hR', _, rfl⟩

@[reducible] def zEC : Array Value := #[.int .i64 0, .int .i64 0, .int .u32 0, .int .u32 0, .int .i64 0]

@[reducible] def zEV : Value := .agg #[.int .i64 0, .int .i64 0, .int .u32 0, .int .u32 0, .int .i64 0]

/-- An entry in the five cells of block D. -/
def Ent9 (w : World) (D : Nat) (e : En) : Prop := w.heap[D]? = some (.cells (enC e) 73 (0, 0))

theorem Ent9.lt {w : World} {D : Nat} {e : En} (h : Ent9 w D e) : D < w.heap.size := (Array.getElem?_eq_some_iff.1 h).1

theorem Ent9.cell {w : World} {D : Nat} {e : En} (h : Ent9 w D e) (j : Nat) : w.cell? ⟨D, j, none⟩ = (enC e)[j]? := cell_of_row w D j _ _ _ h

theorem Ent9.frozen {w : World} {D : Nat} {e : En} (h : Ent9 w D e) (j : Nat) : w.frozen? ⟨D, j, none⟩ = false := frozen_of_row w D j _ _ h

theorem Ent9.cells {w : World} {D : Nat} {e : En} (h : Ent9 w D e) : w.cell? ⟨D, 0, none⟩ = some (.int .i64 e.kind) ∧ w.cell? ⟨D, 1, none⟩ = some (.int .i64 e.time) ∧ w.cell? ⟨D, 2, none⟩ = some (.int .u32 e.sub) ∧ w.cell? ⟨D, 3, none⟩ = some (.int .u32 e.addr) ∧ w.cell? ⟨D, 4, none⟩ = some (.int .i64 e.block) :=
  ⟨h.cell 0, h.cell 1, h.cell 2, h.cell 3, h.cell 4⟩

theorem Ent9.set {w : World} {D : Nat} {e e' : En} (h : Ent9 w D e) (j : Nat) (v : Value) (he : (enC e).setIfInBounds j v = enC e') : Ent9 (w.setCell ⟨D, j, none⟩ v) D e' := by
  unfold Ent9
  rw [heap_setCell_same w D j _ _ _ h, he]

theorem Ent9.other {w w' : World} {D : Nat} {e : En} (h : Ent9 w D e) (hh : w'.heap[D]? = w.heap[D]?) : Ent9 w' D e := hh.trans h

theorem Rd9.other {w w' : World} {R b off len cap p : Nat} (h : Rd9 w R b off len cap p) (hh : w'.heap[R]? = w.heap[R]?) : Rd9 w' R b off len cap p := by
  obtain ⟨o, h1, h2⟩ := h; exact ⟨o, hh.trans h1, h2⟩

theorem Rd9.lt {w : World} {R b off len cap p : Nat} (h : Rd9 w R b off len cap p) : R < w.heap.size := by
  obtain ⟨o, h1, h2⟩ := h; exact (Array.getElem?_eq_some_iff.1 h1).1

/-- What the call has made: the answer D, the reader R, the entry E. -/
structure Dc (w0 w : World) (D R E b off len cap p : Nat) (l : List Int) (e : En) : Prop where
  d0 : D = w0.heap.size
  dr : D < R
  re : R < E
  below : Below D w0 w
  ans : Ent9 w D En.zero
  ent : Ent9 w E e
  rd : Rd9 w R b off len cap p
  at_ : At w0 b off len cap l
  bl : b < D

theorem Dc.set {w0 w : World} {D R E b off len cap p : Nat} {l : List Int} {e e' : En} (h : Dc w0 w D R E b off len cap p l e) (j : Nat) (v : Value) (he : (enC e).setIfInBounds j v = enC e') : Dc w0 (w.setCell ⟨E, j, none⟩ v) D R E b off len cap p l e' := by
  have h1 := h.dr; have h2 := h.re
  refine ⟨h.d0, h.dr, h.re, h.below.setCell (by show D ≤ E; omega) v, h.ans.other ?_, h.ent.set j v he, h.rd.other ?_, h.at_, h.bl⟩
  · exact heap_setCell_other w ⟨E, j, none⟩ D v (by show D ≠ E; omega)
  · exact heap_setCell_other w ⟨E, j, none⟩ R v (by show R ≠ E; omega)

theorem Dc.at9 {w0 w : World} {D R E b off len cap p : Nat} {l : List Int} {e : En} (h : Dc w0 w D R E b off len cap p l e) : At w b off len cap l := h.at_.later (by have := h.below; rwa [h.d0] at this)

theorem take_dc {w0 w : World} {D R E b off len cap p : Nat} {l : List Int} {e : En} (h : Dc w0 w D R E b off len cap p l e) (n : Nat) (q : Int) (hq : q = (n : Int)) (h1 : 1 ≤ n) (h2 : n ≤ 8) (h3 : p + n ≤ len) :
    Calls Tryz.prog 97 #[.pointer (some ⟨R, 0, none⟩), .int .i64 q] w fun r w' => r = .returned (.int .u64 (num ((l.drop p).take n))) ∧ Dc w0 w' D R E b off len cap (p + n) l e := by
  have g1 := h.dr; have g2 := h.re
  refine (take_any R b off len cap p n q l w h.rd h.at9 hq h1 h2 h3).mono ?_
  rintro r w' ⟨rfl, hR, V, rfl⟩
  refine ⟨rfl, h.d0, h.dr, h.re, h.below.setCell (by show D ≤ R; omega) V, h.ans.other ?_, h.ent.other ?_, hR, h.at_, h.bl⟩
  · exact heap_setCell_other w ⟨R, 0, none⟩ D V (by show D ≠ R; omega)
  · exact heap_setCell_other w ⟨R, 0, none⟩ E V (by show E ≠ R; omega)

/-- The entry laid into the answer. -/
@[reducible] def laid9 (w : World) (D : Nat) (e : En) : World :=
  ((((w.setCell ⟨D, 0, none⟩ (.int .i64 e.kind)).setCell ⟨D, 1, none⟩ (.int .i64 e.time)).setCell ⟨D, 2, none⟩ (.int .u32 e.sub)).setCell ⟨D, 3, none⟩ (.int .u32 e.addr)).setCell ⟨D, 4, none⟩ (.int .i64 e.block)

theorem laid9_below {w0 w : World} {D : Nat} (h : Below D w0 w) (e : En) : Below D w0 (laid9 w D e) := by
  have hle : D ≤ D := Nat.le_refl _
  exact ((((h.setCell hle _).setCell hle _).setCell hle _).setCell hle _).setCell hle _

theorem laid9_ent {w : World} {D : Nat} {e : En} (h : Ent9 w D e) (e' : En) : Ent9 (laid9 w D e') D e' :=
  ((((h.set (e' := ⟨e'.kind, e.time, e.sub, e.addr, e.block⟩) 0 _ rfl).set (e' := ⟨e'.kind, e'.time, e.sub, e.addr, e.block⟩) 1 _ rfl).set (e' := ⟨e'.kind, e'.time, e'.sub, e.addr, e.block⟩) 2 _ rfl).set (e' := ⟨e'.kind, e'.time, e'.sub, e'.addr, e.block⟩) 3 _ rfl).set 4 _ rfl

end Go.Proofs.YtafkkehcacdodaaGreat

namespace Go.Proofs.YtafkkehcacdodaaGreat
open Go.RowKit

theorem whyE_M (l : List Int) : whyE l = if whyM l ≠ 0 then whyM l else if 1099511627776 < num ((l.drop 1).take 8) then 1 else 0 := by
  unfold whyE whyM
  split; · rfl
  split; · rfl
  split; · rfl
  split; · rfl
  rfl

set_option maxHeartbeats 1000000 in
theorem decode_no (a : Option Addr) (b off len cap : Nat) (l : List Int) (w : World) (hc : len ≤ maxLen) (hL : l.length = len) (hb : isBytes l) (ha : a = some ⟨b, off, none⟩ ∨ l = []) (hs : Sees w b off l) (h : whyM l ≠ 0) :
    Calls Tryz.prog 65 #[.slice a len cap] w fun r w' => r = .returned (.tuple #[zEV, .int .i64 (whyM l)]) ∧ Below w.heap.size w w' := by
  have hs1 : Sees (w.alloc (.cells zEC 73)) b off l := hs.later (below_alloc _ _)
  have H := measured_any a b off len cap l (w.alloc (.cells zEC 73)) hc hL hb ha hs1
  have hne : (whyM l != 0) = true := bne_iff_ne.2 h
  have bel := below_alloc w (.cells zEC 73)
  generalize whyM l = y at *
  clear hs hs1 ha hb hL
  go_enter Tryz.func65, Tryz.ntmps65
  go_wp2_with fail
  refine H.mono ?_
  rintro r w1 ⟨rfl, rfl⟩
  go_wp2
  refine bodyPost_ret (v := .tuple #[zEV, .int .i64 y]) ?_ rfl ?_
  · simp [results, Tryz.results65, go_sem]
  · exact ⟨rfl, bel⟩

/-- Behind the first two takes: kind and time are read. -/
theorem start_dc (w w1 : World) (D R E b off len cap : Nat) (l : List Int) (k : Int) (hD : D = w.heap.size) (hR : R = D + 1) (hE : E = R + 1) (hA : At w b off len cap l) (hbl : b < D) (hlen : 1 ≤ len)
    (hW : w1 = (w.alloc (.cells zEC 73)).alloc (.cells #[.slice (some ⟨b, off, none⟩) len cap] 163)) :
    Calls Tryz.prog 97 #[.pointer (some ⟨R, 0, none⟩), .int .i64 1] w1 fun r w' => r = .returned (.int .u64 (b1 l 0)) ∧ w'.heap.size = E ∧
      ∀ w2, w2 = w'.alloc (.cells #[.int .i64 k, .int .i64 0, .int .u32 0, .int .u32 0, .int .i64 0] 73) → Dc w w2 D R E b off len cap 1 l ⟨k, 0, 0, 0, 0⟩ := by
  have hs : w1.heap.size = E := by rw [hW]; simp; omega
  have hb0 : Below D w w1 := by rw [hW, hD]; exact ((Below.refl _ w).alloc (Nat.le_refl _) _).alloc (by simp) _
  have hA1 : At w1 b off len cap l := hA.later (by rw [← hD]; exact hb0)
  have hrd : Rd9 w1 R b off len cap 0 := by
    refine ⟨off, ?_, .inl rfl⟩
    rw [hW, show R = (w.alloc (.cells zEC 73)).heap.size by simp; omega]
    exact heap_alloc_new _ _
  have hans : Ent9 w1 D En.zero := by
    unfold Ent9
    rw [hW, Below.heap_alloc _ _ D (by simp; omega), hD]
    exact heap_alloc_new _ _
  refine (take_any R b off len cap 0 1 1 l w1 hrd hA1 rfl (by decide) (by decide) (by omega)).mono ?_
  rintro r w' ⟨rfl, hR', V, rfl⟩
  have hsz : (w1.setCell ⟨R, 0, none⟩ V).heap.size = E := by simp [World.setCell]; exact hs
  refine ⟨?_, hsz, ?_⟩
  · have hl1 : 0 < l.length := by rw [hA.len]; omega
    have : num ((l.drop 0).take 1) = b1 l 0 := by
      rw [take_next l 0 0 (by omega), num_snoc]; simp [num, b1]
    rw [this]
  · rintro w2 rfl
    have hb2 : Below D w (w1.setCell ⟨R, 0, none⟩ V) := hb0.setCell (by show D ≤ R; omega) V
    refine ⟨hD, by omega, by omega, hb2.alloc (by rw [hsz]; omega) _, ?_, ?_, ?_, hA, hbl⟩
    · exact (hans.other (heap_setCell_other w1 ⟨R, 0, none⟩ D V (by show D ≠ R; omega))).other (Below.heap_alloc _ _ D (by rw [hsz]; omega))
    · unfold Ent9; rw [← hsz]; exact heap_alloc_new _ _
    · exact hR'.other (Below.heap_alloc _ _ R (by rw [hsz]; omega))

set_option maxHeartbeats 1000000 in
theorem decode_late (b off len cap : Nat) (l : List Int) (w : World) (hA : At w b off len cap l) (hbl : b < w.heap.size) (h : whyM l = 0) (h9 : 9 ≤ len) (ht : 1099511627776 < num ((l.drop 1).take 8)) :
    Calls Tryz.prog 65 #[.slice (some ⟨b, off, none⟩) len cap] w fun r w' => r = .returned (.tuple #[zEV, .int .i64 1]) ∧ Below w.heap.size w w' := by
  have hc2 := hA.cap2
  have hc1 := hA.cap1
  have hA0 : At (w.alloc (.cells zEC 73)) b off len cap l := hA.later (below_alloc _ _)
  have H := measured_any _ b off len cap l (w.alloc (.cells zEC 73)) (Nat.le_trans hc1 hc2) hA.len hA.bytes (.inl rfl) hA0.sees
  rw [h] at H
  have HS := fun w1 => start_dc w w1 w.heap.size (w.heap.size + 1) (w.heap.size + 1 + 1) b off len cap l (b1 l 0) rfl rfl rfl hA hbl (by omega)
  have hk := b1_bd l hA.bytes 0
  have hki : IntKind.i64.wrap (b1 l 0) = b1 l 0 := i64_id _ hk.1 (by omega)
  clear hA0 hA
  go_enter Tryz.func65, Tryz.ntmps65
  go_wp2_with fail
  refine H.mono ?_
  rintro r w1 ⟨rfl, rfl⟩
  go_wp2_with fail
  refine (HS _ rfl).mono ?_
  rintro r w2 ⟨rfl, hsz, hdc⟩
  have HT := take_dc (hdc _ rfl) 8 8 rfl (by decide) (by decide) (by omega)
  generalize num ((l.drop 1).take 8) = t at *
  generalize b1 l 0 = k at *
  clear hdc HS H
  go_wp2_with fail
  refine HT.mono ?_
  rintro r w3 ⟨rfl, hd⟩
  obtain ⟨c0, c1, c2, c3, c4⟩ := hd.ans.cells
  have hf := hd.ans.frozen
  have bel := laid9_below hd.below En.zero
  obtain ⟨d0, d1, d2, d3, d4⟩ := (laid9_ent hd.ans En.zero).cells
  obtain ⟨W, hW⟩ : ∃ W, W = laid9 w3 w.heap.size En.zero := ⟨_, rfl⟩
  rw [← hW] at bel d0 d1 d2 d3 d4
  clear HT hd
  go_wp2
  change bodyPost Tryz.prog Tryz.f65 _ Exit.ret _ (laid9 w3 w.heap.size En.zero)
  rw [← hW]
  clear hW c0 c1 c2 c3 c4 hf
  refine bodyPost_ret (v := .tuple #[zEV, .int .i64 1]) ?_ rfl ?_
  · simp [results, Tryz.results65, go_sem, d0, d1, d2, d3, d4, En.zero]
  exact ⟨rfl, bel⟩

end Go.Proofs.YtafkkehcacdodaaGreat

namespace Go.Proofs.YtafkkehcacdodaaGreat
open Go.RowKit

set_option maxHeartbeats 4000000 in
theorem decode_ok1 (b off len cap : Nat) (l : List Int) (w : World) (hA : At w b off len cap l) (hbl : b < w.heap.size) (h : whyM l = 0) (h9 : 9 ≤ len) (hk : b1 l 0 = 1) (ht : num ((l.drop 1).take 8) ≤ 1099511627776) (hE : entE l = ⟨1, num ((l.drop 1).take 8), 0, 0, 0⟩) :
    Calls Tryz.prog 65 #[.slice (some ⟨b, off, none⟩) len cap] w fun r w' => r = .returned (.tuple #[enV (entE l), .int .i64 0]) ∧ Below w.heap.size w w' := by
  have hc2 := hA.cap2
  have hc1 := hA.cap1
  have hA0 : At (w.alloc (.cells zEC 73)) b off len cap l := hA.later (below_alloc _ _)
  have H := measured_any _ b off len cap l (w.alloc (.cells zEC 73)) (Nat.le_trans hc1 hc2) hA.len hA.bytes (.inl rfl) hA0.sees
  rw [h] at H
  have HS := fun w1 => start_dc w w1 w.heap.size (w.heap.size + 1) (w.heap.size + 1 + 1) b off len cap l (b1 l 0) rfl rfl rfl hA hbl (by omega)
  rw [hk] at HS
  have ht0 := (num_part_bd l hA.bytes 1 8 18446744073709551616 (by decide)).1
  obtain ⟨t, hgt⟩ : ∃ t, t = num ((l.drop 1).take 8) := ⟨_, rfl⟩
  have Hgt : Hid (t = num ((l.drop 1).take 8)) := hgt
  rw [← hgt] at ht ht0 hE
  clear hgt
  rw [hE]
  clear hA0 hA hE
  go_enter Tryz.func65, Tryz.ntmps65
  go_wp2_with fail
  refine H.mono ?_
  rintro r w1 ⟨rfl, rfl⟩
  go_wp2_with fail
  refine (HS _ rfl).mono ?_
  rintro r w2 ⟨rfl, hsz, hdc⟩
  have HT := take_dc (hdc _ rfl) 8 8 rfl (by decide) (by decide) (by omega)
  rw [← Hgt.out] at HT
  have hti : IntKind.i64.wrap t = t := i64_id _ ht0 (by omega)
  clear hdc HS H h
  go_wp2_with fail
  refine HT.mono ?_
  rintro r w3 ⟨rfl, hd⟩
  obtain ⟨c0, c1, c2, c3, c4⟩ := hd.ent.cells
  have hf := hd.ent.frozen
  have hd' := hd.set (e' := ⟨1, t, 0, 0, 0⟩) 1 (.int .i64 t) rfl
  obtain ⟨g0, g1, g2, g3, g4⟩ := hd.ans.cells
  have gf := hd.ans.frozen
  clear HT hd
  have bel := laid9_below hd'.below ⟨1, t, 0, 0, 0⟩
  obtain ⟨d0, d1, d2, d3, d4⟩ := (laid9_ent hd'.ans ⟨1, t, 0, 0, 0⟩).cells
  obtain ⟨W, hW⟩ : ∃ W, W = laid9 (w3.setCell ⟨w.heap.size + 1 + 1, 1, none⟩ (.int .i64 t)) w.heap.size ⟨1, t, 0, 0, 0⟩ := ⟨_, rfl⟩
  rw [← hW] at bel d0 d1 d2 d3 d4
  clear hd'
  go_wp2
  change bodyPost Tryz.prog Tryz.f65 _ Exit.ret _ (laid9 (w3.setCell ⟨w.heap.size + 1 + 1, 1, none⟩ (.int .i64 t)) w.heap.size ⟨1, t, 0, 0, 0⟩)
  rw [← hW]
  clear hW
  refine bodyPost_ret (v := .tuple #[enV ⟨1, t, 0, 0, 0⟩, .int .i64 0]) ?_ rfl ?_
  · simp [results, Tryz.results65, go_sem, d0, d1, d2, d3, d4]
  exact ⟨rfl, bel⟩

set_option maxHeartbeats 4000000 in
theorem decode_ok2 (b off len cap : Nat) (l : List Int) (w : World) (hA : At w b off len cap l) (hbl : b < w.heap.size) (h : whyM l = 0) (h9 : 19 ≤ len) (hk : b1 l 0 = 2) (ht : num ((l.drop 1).take 8) ≤ 1099511627776) (hE : entE l = ⟨2, num ((l.drop 1).take 8), num ((l.drop 9).take 4), num ((l.drop 13).take 4), num ((l.drop 17).take 2)⟩) :
    Calls Tryz.prog 65 #[.slice (some ⟨b, off, none⟩) len cap] w fun r w' => r = .returned (.tuple #[enV (entE l), .int .i64 0]) ∧ Below w.heap.size w w' := by
  have hc2 := hA.cap2
  have hc1 := hA.cap1
  have hA0 : At (w.alloc (.cells zEC 73)) b off len cap l := hA.later (below_alloc _ _)
  have H := measured_any _ b off len cap l (w.alloc (.cells zEC 73)) (Nat.le_trans hc1 hc2) hA.len hA.bytes (.inl rfl) hA0.sees
  rw [h] at H
  have HS := fun w1 => start_dc w w1 w.heap.size (w.heap.size + 1) (w.heap.size + 1 + 1) b off len cap l (b1 l 0) rfl rfl rfl hA hbl (by omega)
  rw [hk] at HS
  have ht0 := (num_part_bd l hA.bytes 1 8 18446744073709551616 (by decide)).1
  have bds := num_part_bd l hA.bytes 9 4 4294967296 (by decide)
  have bda := num_part_bd l hA.bytes 13 4 4294967296 (by decide)
  have bdbb := num_part_bd l hA.bytes 17 2 65536 (by decide)
  obtain ⟨t, hgt⟩ : ∃ t, t = num ((l.drop 1).take 8) := ⟨_, rfl⟩
  have Hgt : Hid (t = num ((l.drop 1).take 8)) := hgt
  rw [← hgt] at ht ht0 hE
  clear hgt
  obtain ⟨s, hgs⟩ : ∃ s, s = num ((l.drop 9).take 4) := ⟨_, rfl⟩
  have Hgs : Hid (s = num ((l.drop 9).take 4)) := hgs
  rw [← hgs] at bds hE
  clear hgs
  obtain ⟨a, hga⟩ : ∃ a, a = num ((l.drop 13).take 4) := ⟨_, rfl⟩
  have Hga : Hid (a = num ((l.drop 13).take 4)) := hga
  rw [← hga] at bda hE
  clear hga
  obtain ⟨bb, hgbb⟩ : ∃ bb, bb = num ((l.drop 17).take 2) := ⟨_, rfl⟩
  have Hgbb : Hid (bb = num ((l.drop 17).take 2)) := hgbb
  rw [← hgbb] at bdbb hE
  clear hgbb
  rw [hE]
  clear hA0 hA hE
  go_enter Tryz.func65, Tryz.ntmps65
  go_wp2_with fail
  refine H.mono ?_
  rintro r w1 ⟨rfl, rfl⟩
  go_wp2_with fail
  refine (HS _ rfl).mono ?_
  rintro r w2 ⟨rfl, hsz, hdc⟩
  have HT := take_dc (hdc _ rfl) 8 8 rfl (by decide) (by decide) (by omega)
  rw [← Hgt.out] at HT
  have hti : IntKind.i64.wrap t = t := i64_id _ ht0 (by omega)
  clear hdc HS H h
  go_wp2_with fail
  refine HT.mono ?_
  rintro r w3 ⟨rfl, hd⟩
  obtain ⟨c0, c1, c2, c3, c4⟩ := hd.ent.cells
  have hf := hd.ent.frozen
  have hd' := hd.set (e' := ⟨2, t, 0, 0, 0⟩) 1 (.int .i64 t) rfl
  clear HT hd
  have HT := take_dc hd' 4 4 rfl (by decide) (by decide) (by omega)
  rw [← Hgs.out] at HT
  have hwis : IntKind.u32.wrap s = s := u32_id _ bds.1 (by omega)
  clear hd'
  go_wp2_with fail
  refine HT.mono ?_
  rintro r w4 ⟨rfl, hd⟩
  clear c0 c1 c2 c3 c4 hf
  obtain ⟨c0, c1, c2, c3, c4⟩ := hd.ent.cells
  have hf := hd.ent.frozen
  have hd' := hd.set (e' := ⟨2, t, s, 0, 0⟩) 2 (.int .u32 s) rfl
  clear HT hd
  have HT := take_dc hd' 4 4 rfl (by decide) (by decide) (by omega)
  rw [← Hga.out] at HT
  have hwia : IntKind.u32.wrap a = a := u32_id _ bda.1 (by omega)
  clear hd'
  go_wp2_with fail
  refine HT.mono ?_
  rintro r w5 ⟨rfl, hd⟩
  clear c0 c1 c2 c3 c4 hf
  obtain ⟨c0, c1, c2, c3, c4⟩ := hd.ent.cells
  have hf := hd.ent.frozen
  have hd' := hd.set (e' := ⟨2, t, s, a, 0⟩) 3 (.int .u32 a) rfl
  clear HT hd
  have HT := take_dc hd' 2 2 rfl (by decide) (by decide) (by omega)
  rw [← Hgbb.out] at HT
  have hwibb : IntKind.i64.wrap bb = bb := i64_id _ bdbb.1 (by omega)
  clear hd'
  go_wp2_with fail
  refine HT.mono ?_
  rintro r w6 ⟨rfl, hd⟩
  clear c0 c1 c2 c3 c4 hf
  obtain ⟨c0, c1, c2, c3, c4⟩ := hd.ent.cells
  have hf := hd.ent.frozen
  have hd' := hd.set (e' := ⟨2, t, s, a, bb⟩) 4 (.int .i64 bb) rfl
  obtain ⟨g0, g1, g2, g3, g4⟩ := hd.ans.cells
  have gf := hd.ans.frozen
  clear HT hd
  have bel := laid9_below hd'.below ⟨2, t, s, a, bb⟩
  obtain ⟨d0, d1, d2, d3, d4⟩ := (laid9_ent hd'.ans ⟨2, t, s, a, bb⟩).cells
  obtain ⟨W, hW⟩ : ∃ W, W = laid9 (w6.setCell ⟨w.heap.size + 1 + 1, 4, none⟩ (.int .i64 bb)) w.heap.size ⟨2, t, s, a, bb⟩ := ⟨_, rfl⟩
  rw [← hW] at bel d0 d1 d2 d3 d4
  clear hd'
  go_wp2
  change bodyPost Tryz.prog Tryz.f65 _ Exit.ret _ (laid9 (w6.setCell ⟨w.heap.size + 1 + 1, 4, none⟩ (.int .i64 bb)) w.heap.size ⟨2, t, s, a, bb⟩)
  rw [← hW]
  clear hW
  refine bodyPost_ret (v := .tuple #[enV ⟨2, t, s, a, bb⟩, .int .i64 0]) ?_ rfl ?_
  · simp [results, Tryz.results65, go_sem, d0, d1, d2, d3, d4]
  exact ⟨rfl, bel⟩

set_option maxHeartbeats 4000000 in
theorem decode_ok3 (b off len cap : Nat) (l : List Int) (w : World) (hA : At w b off len cap l) (hbl : b < w.heap.size) (h : whyM l = 0) (h9 : 15 ≤ len) (hk : b1 l 0 = 3) (ht : num ((l.drop 1).take 8) ≤ 1099511627776) (hE : entE l = ⟨3, num ((l.drop 1).take 8), 0, num ((l.drop 9).take 4), num ((l.drop 13).take 2)⟩) :
    Calls Tryz.prog 65 #[.slice (some ⟨b, off, none⟩) len cap] w fun r w' => r = .returned (.tuple #[enV (entE l), .int .i64 0]) ∧ Below w.heap.size w w' := by
  have hc2 := hA.cap2
  have hc1 := hA.cap1
  have hA0 : At (w.alloc (.cells zEC 73)) b off len cap l := hA.later (below_alloc _ _)
  have H := measured_any _ b off len cap l (w.alloc (.cells zEC 73)) (Nat.le_trans hc1 hc2) hA.len hA.bytes (.inl rfl) hA0.sees
  rw [h] at H
  have HS := fun w1 => start_dc w w1 w.heap.size (w.heap.size + 1) (w.heap.size + 1 + 1) b off len cap l (b1 l 0) rfl rfl rfl hA hbl (by omega)
  rw [hk] at HS
  have ht0 := (num_part_bd l hA.bytes 1 8 18446744073709551616 (by decide)).1
  have bda := num_part_bd l hA.bytes 9 4 4294967296 (by decide)
  have bdbb := num_part_bd l hA.bytes 13 2 65536 (by decide)
  obtain ⟨t, hgt⟩ : ∃ t, t = num ((l.drop 1).take 8) := ⟨_, rfl⟩
  have Hgt : Hid (t = num ((l.drop 1).take 8)) := hgt
  rw [← hgt] at ht ht0 hE
  clear hgt
  obtain ⟨a, hga⟩ : ∃ a, a = num ((l.drop 9).take 4) := ⟨_, rfl⟩
  have Hga : Hid (a = num ((l.drop 9).take 4)) := hga
  rw [← hga] at bda hE
  clear hga
  obtain ⟨bb, hgbb⟩ : ∃ bb, bb = num ((l.drop 13).take 2) := ⟨_, rfl⟩
  have Hgbb : Hid (bb = num ((l.drop 13).take 2)) := hgbb
  rw [← hgbb] at bdbb hE
  clear hgbb
  rw [hE]
  clear hA0 hA hE
  go_enter Tryz.func65, Tryz.ntmps65
  go_wp2_with fail
  refine H.mono ?_
  rintro r w1 ⟨rfl, rfl⟩
  go_wp2_with fail
  refine (HS _ rfl).mono ?_
  rintro r w2 ⟨rfl, hsz, hdc⟩
  have HT := take_dc (hdc _ rfl) 8 8 rfl (by decide) (by decide) (by omega)
  rw [← Hgt.out] at HT
  have hti : IntKind.i64.wrap t = t := i64_id _ ht0 (by omega)
  clear hdc HS H h
  go_wp2_with fail
  refine HT.mono ?_
  rintro r w3 ⟨rfl, hd⟩
  obtain ⟨c0, c1, c2, c3, c4⟩ := hd.ent.cells
  have hf := hd.ent.frozen
  have hd' := hd.set (e' := ⟨3, t, 0, 0, 0⟩) 1 (.int .i64 t) rfl
  clear HT hd
  have HT := take_dc hd' 4 4 rfl (by decide) (by decide) (by omega)
  rw [← Hga.out] at HT
  have hwia : IntKind.u32.wrap a = a := u32_id _ bda.1 (by omega)
  clear hd'
  go_wp2_with fail
  refine HT.mono ?_
  rintro r w4 ⟨rfl, hd⟩
  clear c0 c1 c2 c3 c4 hf
  obtain ⟨c0, c1, c2, c3, c4⟩ := hd.ent.cells
  have hf := hd.ent.frozen
  have hd' := hd.set (e' := ⟨3, t, 0, a, 0⟩) 3 (.int .u32 a) rfl
  clear HT hd
  have HT := take_dc hd' 2 2 rfl (by decide) (by decide) (by omega)
  rw [← Hgbb.out] at HT
  have hwibb : IntKind.i64.wrap bb = bb := i64_id _ bdbb.1 (by omega)
  clear hd'
  go_wp2_with fail
  refine HT.mono ?_
  rintro r w5 ⟨rfl, hd⟩
  clear c0 c1 c2 c3 c4 hf
  obtain ⟨c0, c1, c2, c3, c4⟩ := hd.ent.cells
  have hf := hd.ent.frozen
  have hd' := hd.set (e' := ⟨3, t, 0, a, bb⟩) 4 (.int .i64 bb) rfl
  obtain ⟨g0, g1, g2, g3, g4⟩ := hd.ans.cells
  have gf := hd.ans.frozen
  clear HT hd
  have bel := laid9_below hd'.below ⟨3, t, 0, a, bb⟩
  obtain ⟨d0, d1, d2, d3, d4⟩ := (laid9_ent hd'.ans ⟨3, t, 0, a, bb⟩).cells
  obtain ⟨W, hW⟩ : ∃ W, W = laid9 (w5.setCell ⟨w.heap.size + 1 + 1, 4, none⟩ (.int .i64 bb)) w.heap.size ⟨3, t, 0, a, bb⟩ := ⟨_, rfl⟩
  rw [← hW] at bel d0 d1 d2 d3 d4
  clear hd'
  go_wp2
  change bodyPost Tryz.prog Tryz.f65 _ Exit.ret _ (laid9 (w5.setCell ⟨w.heap.size + 1 + 1, 4, none⟩ (.int .i64 bb)) w.heap.size ⟨3, t, 0, a, bb⟩)
  rw [← hW]
  clear hW
  refine bodyPost_ret (v := .tuple #[enV ⟨3, t, 0, a, bb⟩, .int .i64 0]) ?_ rfl ?_
  · simp [results, Tryz.results65, go_sem, d0, d1, d2, d3, d4]
  exact ⟨rfl, bel⟩

end Go.Proofs.YtafkkehcacdodaaGreat

namespace Go.Proofs.YtafkkehcacdodaaGreat
open Go.RowKit

theorem whyM_len {l : List Int} (h : whyM l = 0) : (l.length : Int) = sizeK (b1 l 0) ∧ (b1 l 0 = 1 ∨ b1 l 0 = 2 ∨ b1 l 0 = 3) := by
  unfold whyM at h
  split at h; · omega
  split at h; · omega
  split at h; · omega
  split at h; · omega
  rename_i h1 h2 h3 h4
  refine ⟨by omega, ?_⟩
  unfold sizeK at h2
  split at h2; · omega
  split at h2; · omega
  split at h2; · omega
  omega

theorem entE_no {l : List Int} (h : whyE l ≠ 0) : entE l = En.zero := by unfold entE; rw [if_neg h]

theorem entE_1 {l : List Int} (h : whyE l = 0) (k : b1 l 0 = 1) : entE l = ⟨1, num ((l.drop 1).take 8), 0, 0, 0⟩ := by
  unfold entE; rw [if_pos h, if_pos k, k]

theorem entE_2 {l : List Int} (h : whyE l = 0) (k : b1 l 0 = 2) : entE l = ⟨2, num ((l.drop 1).take 8), num ((l.drop 9).take 4), num ((l.drop 13).take 4), num ((l.drop 17).take 2)⟩ := by
  unfold entE; rw [if_pos h, if_neg (by omega), if_pos k, k]

theorem entE_3 {l : List Int} (h : whyE l = 0) (k : b1 l 0 = 3) : entE l = ⟨3, num ((l.drop 1).take 8), 0, num ((l.drop 9).take 4), num ((l.drop 13).take 2)⟩ := by
  unfold entE; rw [if_pos h, if_neg (by omega), if_neg (by omega), k]

/-- Whatever the bytes. -/
theorem decode_any (v : Value) (l : List Int) (w : World) (h : Bts w v l) :
    Calls Tryz.prog 65 #[v] w fun r w' => r = .returned (.tuple #[enV (entE l), .int .i64 (whyE l)]) ∧ Below w.heap.size w w' := by
  obtain ⟨a, cap, b, off, rfl, h2, h3, h4, h5, h6⟩ := h
  by_cases hM : whyM l = 0
  case neg =>
    have hE : whyE l = whyM l := by rw [whyE_M, if_pos hM]
    rw [hE, entE_no (by rw [hE]; exact hM)]
    exact decode_no a b off l.length cap l w (Nat.le_trans h2 h3) rfl h4 h5 h6 hM
  obtain ⟨hl, hk⟩ := whyM_len hM
  have hne : l ≠ [] := by rintro rfl; revert hl; rcases hk with k | k | k <;> rw [k] <;> decide
  have ha : a = some ⟨b, off, none⟩ := by rcases h5 with h | h; · exact h
                                          · exact absurd h hne
  subst ha
  have hA : At w b off l.length cap l := ⟨h2, h3, rfl, h4, h6⟩
  have hbl : b < w.heap.size := World.block_lt_of_cell? w _ (h6 0 (List.length_pos_iff.2 hne))
  by_cases ht : 1099511627776 < num ((l.drop 1).take 8)
  · have hE : whyE l = 1 := by rw [whyE_M, if_neg (by simpa using hM), if_pos ht]
    rw [hE, entE_no (by rw [hE]; decide)]
    exact decode_late b off l.length cap l w hA hbl hM (by rcases hk with k | k | k <;> rw [k] at hl <;> simp [sizeK] at hl <;> omega) ht
  · have hE : whyE l = 0 := by rw [whyE_M, if_neg (by simpa using hM), if_neg ht]
    rw [hE]
    rcases hk with k | k | k
    · exact decode_ok1 b off l.length cap l w hA hbl hM (by rw [k] at hl; simp [sizeK] at hl; omega) k (by omega) (entE_1 hE k)
    · exact decode_ok2 b off l.length cap l w hA hbl hM (by rw [k] at hl; simp [sizeK] at hl; omega) k (by omega) (entE_2 hE k)
    · exact decode_ok3 b off l.length cap l w hA hbl hM (by rw [k] at hl; simp [sizeK] at hl; omega) k (by omega) (entE_3 hE k)

end Go.Proofs.YtafkkehcacdodaaGreat
