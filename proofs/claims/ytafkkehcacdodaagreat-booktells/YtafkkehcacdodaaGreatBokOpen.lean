/- Open. -/
import Derived.Test.YtafkkehcacdodaaGreatBokFound
set_option maxRecDepth 100000
namespace Go.Proofs.YtafkkehcacdodaaGreat
open Go.RowKit Go.Shelf

/-- A book that was just made over a strand. -/
theorem bk_made {w6 w7 : World} {tag6 : Nat → Nat} {base o : Nat} {s : St} {p : PL} {t : Sd} {q : SL} (hP : PD w6 tag6 base o s p) (hQ : PO w6 tag6 base (o + 1) p.D t q) (hbase : base ≤ w6.heap.size) (hB : Below w6.heap.size w6 w7) (kv : Value) (L : List En) (hk : ERow w7 w6.heap.size kv L) (ty : TypeId) :
    ∃ tag', (∀ k, k < w6.heap.size → tag' k = tag6 k) ∧ BK (w7.alloc (.cells #[.pointer (some ⟨q.S, 0, none⟩), kv, .slice none 0 0] ty)) tag' base o p.D w7.heap.size ⟨s, t, L, []⟩ := by
  obtain ⟨W, hW⟩ : ∃ W, W = w7.alloc (.cells #[.pointer (some ⟨q.S, 0, none⟩), kv, .slice none 0 0] ty) := ⟨_, rfl⟩
  rw [← hW]
  have hs := hB.size
  have hBW : Below w6.heap.size w6 W := by rw [hW]; exact hB.trans ((below_alloc _ _).mono hs)
  obtain ⟨tag', htag⟩ : ∃ tag' : Nat → Nat, tag' = fun k => if k < w6.heap.size then tag6 k else if k = w7.heap.size then 16 * (o + 2) + 1 else 16 * (o + 2) + 2 := ⟨_, rfl⟩
  have t1 : ∀ k, k < w6.heap.size → tag' k = tag6 k := fun k hk => by rw [htag]; simp [hk]
  have t2 : tag' w7.heap.size = 16 * (o + 2) + 1 := by rw [htag]; simp [Nat.not_lt.2 hs]
  have t3 : ∀ k, w6.heap.size ≤ k → k < w7.heap.size → tag' k = 16 * (o + 2) + 2 := fun k h1 h2 => by
    rw [htag]
    simp only [if_neg (Nat.not_lt.2 h1), if_neg (Nat.ne_of_lt h2)]
  refine ⟨tag', t1, p, q, kv, .slice none 0 0, rfl, hP.keep (fun k hk _ => hBW.block k hk) t1, hQ.keep (fun k hk _ => hBW.block k hk) t1 hBW.size, ⟨?_, ?_, win_nil _ _, ⟨t2, by omega⟩, ?_, fun g hg => by simp [Value.ownBlock] at hg⟩⟩
  · rw [hW]; exact blk_new _ _ _
  · rw [hW]; exact (win_of_owns hk).later (below_alloc _ _)
  · intro g hg
    obtain ⟨h1, h2⟩ := hk.lt g hg
    exact ⟨t3 g h1 h2, by omega⟩

theorem enters_bspans : ∀ (args : Array Value) (w : World), (callFunc 24 args).run Tryz.prog w = .ok (.enter 24 args) w := enters_of Tryz.func24 (by kernel_rfl) rfl

theorem enters_ends : ∀ (args : Array Value) (w : World), (callFunc 34 args).run Tryz.prog w = .ok (.enter 34 args) w := enters_of Tryz.func34 (by kernel_rfl) rfl

theorem enters_bwrite : ∀ (args : Array Value) (w : World), (callFunc 33 args).run Tryz.prog w = .ok (.enter 33 args) w := enters_of Tryz.func33 (by kernel_rfl) rfl

/-- No disk, or no time. -/
theorem bopen_nil (w : World) (now : Int) : Calls Tryz.prog 9 #[.pointer none, .int .i64 now] w fun e w' => e = .returned (.tuple #[.pointer none, .int .i64 1]) ∧ Below w.heap.size w w' := by
  have hB := below_alloc w (.cells #[.int .i64 1, .int .i64 now, .int .u32 0, .int .u32 0, .int .i64 0] 73)
  go_enter Tryz.func9, Tryz.ntmps9
  go_wp2
  go_ret2
  exact ⟨rfl, hB⟩

theorem boot_check (now : Int) : checkE (bootE now) = if goodT now then 0 else 1 := by
  by_cases h : goodT now = true
  · rw [if_pos h, checkE_may (goodT_boot.1 h)]
  · rw [if_neg h]
    rcases check_cases (bootE now) with e | e
    · exact absurd (goodT_boot.2 (checkE_zero e)) h
    · exact e

theorem bopen_bad (w : World) (D : Nat) (now : Int) (h : goodT now = false) : Calls Tryz.prog 9 #[.pointer (some ⟨D, 0, none⟩), .int .i64 now] w fun e w' => e = .returned (.tuple #[.pointer none, .int .i64 1]) ∧ Below w.heap.size w w' := by
  have hB := below_alloc w (.cells #[.int .i64 1, .int .i64 now, .int .u32 0, .int .u32 0, .int .i64 0] 73)
  have hC := echeck_any (bootE now) (w.alloc (.cells #[.int .i64 1, .int .i64 now, .int .u32 0, .int .u32 0, .int .i64 0] 73))
  rw [boot_check, if_neg (by rw [h]; decide)] at hC
  clear h
  go_enter Tryz.func9, Tryz.ntmps9
  go_wp2_with fail
  refine (by exact hC : Calls _ _ _ _ _).mono ?_
  rintro e w1 ⟨rfl, hB1⟩
  go_wp2
  go_ret2
  exact ⟨rfl, hB.trans (hB1.mono hB.size)⟩

/-- The book that Open begins with. -/
def b0 (s : St) : Bm := ⟨s, openT s, startL s, []⟩

/-- What Open gives. -/
def bookV (x : Int) (B : Nat) : Value := if x = 0 then .pointer (some ⟨B, 0, none⟩) else .pointer none

theorem opn_wr (s : St) (now : Int) (h : opnE s now = 0) : wrB (b0 s) (moreE (startL s) now) = opnB s now := by
  unfold wrB
  rw [if_pos (by exact h)]
  rfl

theorem sps_row {w : World} {base : Nat} {v : Value} {l : List Sp} (h : SpRow w base v l) : ∃ B O, Sps w v B O l := by
  obtain ⟨a, cap, rfl, h2, h3, h4⟩ := ownsRow_shape h
  rcases h4 with h4 | ⟨g, rfl⟩
  · have hl : l = [] := List.eq_nil_of_length_eq_zero h4
    subst hl
    exact ⟨0, 0, a, cap, rfl, h2, h3, .inr rfl, fun i s hs => by simp at hs⟩
  · refine ⟨g, 0, _, cap, rfl, h2, h3, .inl rfl, fun i s hs => ?_⟩
    rw [Nat.zero_add]
    exact spRow_at h rfl hs

theorem sps_later {w w' : World} {v : Value} {B O : Nat} {l : List Sp} (h : Sps w v B O l) (hb : Below w.heap.size w w') : Sps w' v B O l := by
  obtain ⟨a, cap, h1, h2, h3, h4, h5⟩ := h
  exact ⟨a, cap, h1, h2, h3, h4, fun i s hs => spAt_later (h5 i s hs) hb⟩

/-- One entry behind a row of the call's own, from wherever it lies. -/
theorem append_eG (W : World) (base G : Nat) (v : Value) (l : List En) (e : En) (hv : ERow W base v l) (hbase : base ≤ W.heap.size) (hlen : l.length ≤ 1000000) (hc : ∀ j u, (eL5 e)[j]? = some u → W.cell? ⟨G, j, none⟩ = some u) :
    ∃ a5 c5 w', (Builtin.append_ #[63, 63] 63 #[v, .slice (some ⟨G, 0, none⟩) 1 1]).run Tryz.prog W = .ok (.slice a5 (l ++ [e]).length c5) w' ∧ ERow w' base (.slice a5 (l ++ [e]).length c5) (l ++ [e]) ∧ Below base W w' := by
  obtain ⟨i0, hi, hz0, hz1, hz2⟩ := info_parts infoE5
  obtain ⟨v', w', hr, ho, hg, -⟩ := run_append_own (P := Tryz.prog) W base 63 63 73 i0 _ 5 32 Tryz.underlying63 hi hz0 hz1 hz2 rfl (by decide) v l.length (l.flatMap eL5) hv
    ⟨G, 0, none⟩ 1 1 (eL5 e) rfl (fun j u hj => by rw [add_at, Nat.zero_add]; exact hc j u hj) (by
      intro u hu
      exact eL5_one [e] u (by rw [List.flatMap_cons, List.flatMap_nil, List.append_nil]; exact hu)) (by unfold maxLen; omega) (by omega) (by omega)
  have hE : ERow w' base v' (l ++ [e]) := by
    show w'.ownsRow base _ 5 v' (l ++ [e]).length ((l ++ [e]).flatMap eL5)
    rw [List.flatMap_append, List.length_append]
    have e1 : List.flatMap eL5 [e] = eL5 e := by rw [List.flatMap_cons, List.flatMap_nil, List.append_nil]
    rw [e1]
    exact ho
  obtain ⟨a5, c5, rfl, _⟩ := ownsRow_shape hE
  exact ⟨a5, c5, w', hr, hE, (Below.refl _ _).grown hg hbase (fun k hk => (hv.lt k hk).1)⟩

theorem e5_news (w : World) (e : En) (j : Nat) (u : Value) (h : (eL5 e)[j]? = some u) : (w.alloc (.cells (enC e) 73)).cell? ⟨w.heap.size, j, none⟩ = some u := by
  rw [(blk_new w (enC e) _).cell]; exact h

/-- Spans that a row of some call shows. -/
def SeeSp (w : World) (v : Value) (l : List Sp) : Prop := ∃ B O, Sps w v B O l

theorem SeeSp.form {w : World} {v : Value} {l : List Sp} (h : SeeSp w v l) : ∃ a c, v = .slice a l.length c := by
  obtain ⟨B, O, a, c, h1, _⟩ := h
  exact ⟨a, c, h1⟩

theorem SeeSp.later {w w' : World} {v : Value} {l : List Sp} (h : SeeSp w v l) (hb : Below w.heap.size w w') : SeeSp w' v l := by
  obtain ⟨B, O, h⟩ := h
  exact ⟨B, O, sps_later h hb⟩

set_option maxHeartbeats 4000000 in
theorem bopen_ok (w : World) (tag : Nat → Nat) (base o : Nat) (ho : 1 ≤ o) (s : St) (p : PL) (h : PD w tag base o s p) (hbase : base ≤ w.heap.size) (now : Int) (hg : goodT now = true)
    (hops : s.ops ≤ 700000) (hsin : s.since.length ≤ 700000) (hout : s.outs.length ≤ 700000) (hL : (startL s).length ≤ 1000) :
    Calls Tryz.prog 9 #[.pointer (some ⟨p.D, 0, none⟩), .int .i64 now] w fun e w' => ∃ tag', StepR tag tag' base o (o + 2) w w' ∧ ∃ B, BK w' tag' base o p.D B (wrB (b0 s) (moreE (startL s) now)) ∧ e = .returned (.tuple #[bookV (opnE s now) B, .int .i64 (opnE s now)]) := by
  obtain ⟨wa, hwa⟩ : ∃ wa, wa = w.alloc (.cells #[.int .i64 1, .int .i64 now, .int .u32 0, .int .u32 0, .int .i64 0] 73) := ⟨_, rfl⟩
  have hBa : Below w.heap.size w wa := by rw [hwa]; exact below_alloc _ _
  have hC := echeck_any (bootE now) wa
  rw [boot_check, if_pos hg] at hC
  have d0 : wa.cell? ⟨w.heap.size, 0, none⟩ = some (.int .i64 1) := by rw [hwa]; simp
  have d1 : wa.cell? ⟨w.heap.size, 1, none⟩ = some (.int .i64 now) := by rw [hwa]; simp
  have d2 : wa.cell? ⟨w.heap.size, 2, none⟩ = some (.int .u32 0) := by rw [hwa]; simp
  have d3 : wa.cell? ⟨w.heap.size, 3, none⟩ = some (.int .u32 0) := by rw [hwa]; simp
  have d4 : wa.cell? ⟨w.heap.size, 4, none⟩ = some (.int .i64 0) := by rw [hwa]; simp
  have HCl : Hid (∀ wx, Below wa.heap.size wa wx → wx.cell? ⟨w.heap.size, 0, none⟩ = some (.int .i64 1) ∧ wx.cell? ⟨w.heap.size, 1, none⟩ = some (.int .i64 now) ∧ wx.cell? ⟨w.heap.size, 2, none⟩ = some (.int .u32 0) ∧ wx.cell? ⟨w.heap.size, 3, none⟩ = some (.int .u32 0) ∧ wx.cell? ⟨w.heap.size, 4, none⟩ = some (.int .i64 0)) := fun wx hx =>
    ⟨cell_later hx d0, cell_later hx d1, cell_later hx d2, cell_later hx d3, cell_later hx d4⟩
  have HP : Hid (PD w tag base o s p) := h
  obtain ⟨hok1, hok2, hok3⟩ := openT_ok h.ok
  have hn2 := h.ok.n2
  have HOk : Hid (s.Ok) := h.ok
  clear h d0 d1 d2 d3 d4
  rw [hwa] at hC
  go_enter Tryz.func9, Tryz.ntmps9
  go_wp2_with fail
  refine (by exact hC : Calls _ _ _ _ _).mono ?_
  rintro e w1 ⟨rfl, hB1⟩
  rw [← hwa] at hB1
  have hB01 : Below w.heap.size w w1 := hBa.trans (hB1.mono hBa.size)
  have HO := open_ok w1 (clip tag w.heap.size) base o (o + 1) (by omega) s p (HP.out.clip hB01) (Nat.le_trans hbase hB01.size)
  go_wp2_with fail
  refine (by exact HO : Calls _ _ _ _ _).mono ?_
  rintro e w2 ⟨q, tag2, rfl, hQ, hT, hB2⟩
  have hB12 : Below wa.heap.size wa w2 := hB1.trans (hB2.mono hB1.size)
  have hB02 : Below w.heap.size w w2 := hB01.trans (hB2.mono hB01.size)
  have hPD2 : PD w2 tag2 base o s p := (HP.out.clip hB01).keep (fun k hk _ => hB2.block k hk) hT
  have HA := all_ok w2 tag2 base (o + 1) p.D (openT s) q hQ s.n hok1 (by omega)
  go_wp2_with fail
  refine (by exact HA : Calls _ _ _ _ _).mono ?_
  rintro e w3 ⟨v3, vs3, rfl, hL3, hB3⟩
  have HFo := found_ok w3 _ v3 vs3 (bodies (openT s)) hL3 (by rw [bodies_len]; omega)
  obtain ⟨a3, c3, rfl, _⟩ := win_form hL3.win
  go_wp2_with fail
  refine (by exact HFo : Calls _ _ _ _ _).mono ?_
  rintro e w4 ⟨kv, rfl, hK, hB4⟩
  have hB24 : Below w2.heap.size w2 w4 := hB3.trans (hB4.mono hB3.size)
  have hK : ERow w4 w3.heap.size kv (startL s) := hK
  obtain ⟨tag5, hT5, hBK⟩ := bk_made hPD2 hQ (Nat.le_trans hbase hB02.size) hB24 kv (startL s) (ownsRow_low hK hB3.size) 82
  obtain ⟨ka, kc, rfl, _⟩ := ownsRow_shape hK
  clear HO HA HFo hC hQ hPD2 hL3 hK
  obtain ⟨W, hW⟩ : ∃ W, W = w4.alloc (.cells #[.pointer (some ⟨q.S, 0, none⟩), .slice ka (startL s).length kc, .slice none 0 0] 82) := ⟨_, rfl⟩
  have hB2W : Below w2.heap.size w2 W := by rw [hW]; exact hB24.trans ((below_alloc _ _).mono hB24.size)
  have hBW : Below wa.heap.size wa W := hB12.trans (hB2W.mono hB12.size)
  have hB0W : Below w.heap.size w W := hBa.trans (hBW.mono hBa.size)
  have HSW : Hid (StepR tag tag5 base o (o + 2) w W) := ⟨hB0W.mono hbase, fun k hk => by
    have hk1 := Nat.lt_of_lt_of_le hk hB01.size
    rw [hT5 k (Nat.lt_of_lt_of_le hk hB02.size), hT k hk1]
    exact clip_lt _ _ _ hk, fun k hk _ => hB0W.block k hk⟩
  have hbW : base ≤ W.heap.size := Nat.le_trans hbase hB0W.size
  rw [← hW] at hBK
  have HBK : Hid (BK W tag5 base o p.D w4.heap.size (b0 s)) := hBK
  have HW : Hid (W = w4.alloc (.cells #[.pointer (some ⟨q.S, 0, none⟩), .slice ka (startL s).length kc, .slice none 0 0] 82)) := hW
  have hFin : Fine (startL s) := start_fine HOk.out
  have hgt : 0 ≤ now ∧ now ≤ 1099511627776 := of_decide_eq_true hg
  have hml := more_len (startL s) now
  have hel := ends_len (startL s) now
  have hslr : (startL s).length ≤ 32768 := by have := start_len HOk.out; omega
  have hbd : ∀ wx, Below W.drew.heap.size W.drew wx → Below W.heap.size W wx := fun wx h4 => (Below.refl _ W).drew.trans h4
  -- the calls of the region, in whatever world
  have HSp : ∀ wx, Hid (Below W.drew.heap.size W.drew wx → Calls Tryz.prog 24 #[.pointer (some ⟨w4.heap.size, 0, none⟩)] wx fun e w' => ∃ v', e = .returned v' ∧ SeeSp w' v' (spans (startL s)) ∧ Below wx.heap.size wx w') := fun wx hx => by
    refine (bspans_ok wx (clip tag5 W.heap.size) base o p.D w4.heap.size (b0 s) (HBK.out.new (hbd wx hx)) hFin hL).mono ?_
    rintro e w' ⟨v', rfl, h1, h2⟩
    exact ⟨v', rfl, sps_row h1, h2⟩
  have HEn : ∀ wx v, Hid (SeeSp wx v (spans (startL s)) → Calls Tryz.prog 34 #[v, .int .i64 now] wx fun e w' => ∃ r, e = .returned r ∧ ERow w' wx.heap.size r (endsE (spans (startL s)) now) ∧ Below wx.heap.size wx w') := fun wx v hx => by
    obtain ⟨B, O, hx⟩ := hx
    exact ends_ok wx v B O (spans (startL s)) now hx (by have := spans_length (startL s); omega)
  have HAp : ∀ wx r G, Hid (Below W.drew.heap.size W.drew wx → ERow wx W.heap.size r (endsE (spans (startL s)) now) → (∀ j u, (eL5 (bootE now))[j]? = some u → wx.cell? ⟨G, j, none⟩ = some u) →
      ∃ a5 c5 w5, (Builtin.append_ #[63, 63] 63 #[r, .slice (some ⟨G, 0, none⟩) 1 1]).run Tryz.prog wx = .ok (.slice a5 (moreE (startL s) now).length c5) w5 ∧ ERow w5 W.heap.size (.slice a5 (moreE (startL s) now).length c5) (moreE (startL s) now) ∧ Below W.heap.size W w5) := fun wx r G hx hrow hc => by
    have hb := hbd wx hx
    obtain ⟨a5, c5, w5, k1, k2, k3⟩ := append_eG wx W.heap.size G r (endsE (spans (startL s)) now) (bootE now) hrow hb.size (by omega) hc
    exact ⟨a5, c5, w5, k1, k2, hb.trans k3⟩
  have HWr : ∀ wx v, Hid (Below W.heap.size W wx → ERow wx W.heap.size v (moreE (startL s) now) → Calls Tryz.prog 33 #[.pointer (some ⟨w4.heap.size, 0, none⟩), v] wx fun e w' => e = .returned (.int .i64 (opnE s now)) ∧ ∃ tag', StepR tag tag' base o (o + 2) w w' ∧ BK w' tag' base o p.D w4.heap.size (wrB (b0 s) (moreE (startL s) now))) := fun wx v hx hrow => by
    have hfar : Far wx (clip tag5 W.heap.size) o (o + 1) v (moreE (startL s) now) := ⟨win_of_owns hrow, fun g hg => by
      have := (hrow.lt g hg).1
      left
      simp [clip, Nat.not_lt.2 this]; omega⟩
    refine (bwrite_ok wx (clip tag5 W.heap.size) base o p.D w4.heap.size ho (b0 s) (HBK.out.new hx) (Nat.le_trans hbW hx.size) v (moreE (startL s) now) hfar (more_fine hFin hgt.1 hgt.2) 700000 ⟨HOk.out, (openT_ok HOk.out).1, hops, hsin⟩ (by omega) (by show s.outs.length ≤ _; omega) (by show (openT s).recs.length + _ ≤ _; omega) (by show (startL s).length + _ ≤ _; omega)).mono ?_
    rintro e w' ⟨rfl, tag', k1, k2⟩
    exact ⟨rfl, tag', (HSW.out.trans (stepR_clip tag5 base o (o + 2) hbW hx)).trans k1, k2⟩
  clear hBK hT hT5 hB01 hB02 hB1 hB2 hB3 hB4 hB12 hB24 hB2W hB0W hg hW hFin hgt HBK HSW
  have HD : Hid (∀ wx, Below W.drew.heap.size W.drew wx → wx.cell? ⟨w.heap.size, 0, none⟩ = some (.int .i64 1) ∧ wx.cell? ⟨w.heap.size, 1, none⟩ = some (.int .i64 now) ∧ wx.cell? ⟨w.heap.size, 2, none⟩ = some (.int .u32 0) ∧ wx.cell? ⟨w.heap.size, 3, none⟩ = some (.int .u32 0) ∧ wx.cell? ⟨w.heap.size, 4, none⟩ = some (.int .i64 0)) := fun wx hx => HCl.out wx (hBW.trans ((hbd wx hx).mono hBW.size))
  obtain ⟨d0, d1, d2, d3, d4⟩ := HD.out W.drew (Below.refl _ _)
  have hebl : w.heap.size < W.drew.heap.size := by have := hBW.size; rw [hwa] at this; simp at this; show _ < W.heap.size; omega
  clear HCl hBW hbd hBa
  go_wp2_with fail
  rw [← HW.out]
  obtain ⟨B, hB⟩ : ∃ B, B = w4.heap.size := ⟨_, rfl⟩
  have HSp : Hid (∀ wx, Hid _) := HSp
  have HEn : Hid (∀ wx v, Hid _) := HEn
  have HAp : Hid (∀ wx r G, Hid _) := HAp
  have HWr : Hid (∀ wx v, Hid _) := HWr
  rw [← hB] at HSp HWr ⊢
  clear hB HW hok1 hok2 hok3 hn2 HP HOk hml hel hslr hL hops hsin hout hbW hwa
  go_region_law (first
    | (refine step_calls rfl 24 #[.tmp 35] #[32] rfl #[.pointer (some ⟨B, 0, none⟩)] (by go_simp) enters_bspans ((HSp.out _).out (by first | exact Below.refl _ _ | exact below_alloc _ _)) ?_
       rintro e wA ⟨v1, rfl, hs1, hbA⟩
       have hA : Below W.drew.heap.size W.drew wA := by first | exact hbA | exact (below_alloc _ _).trans (hbA.mono (below_alloc _ _).size)
       obtain ⟨d0, d1, d2, d3, d4⟩ := HD.out wA hA
       have heA : w.heap.size < wA.heap.size := Nat.lt_of_lt_of_le hebl hA.size
       try have hgA : ∀ j u, (eL5 (bootE now))[j]? = some u → wA.cell? ⟨W.drew.heap.size, j, none⟩ = some u := fun j u hj => cell_later hbA (e5_news W.drew (bootE now) j u hj)
       obtain ⟨sa, sc, hsv⟩ := hs1.form
       subst hsv
       refine ⟨_, rfl, ?_⟩)
    | (refine step_calls rfl 34 #[.tmp 36, .tmp 37] #[57, 2] rfl #[.slice sa (spans (startL s)).length sc, .int .i64 now] (by go_simp) enters_ends ((HEn.out _ _).out (by first | exact hs1 | exact hs1.later (below_alloc _ _))) ?_
       rintro e wE ⟨r, rfl, hr, hbE⟩
       have hE : Below W.drew.heap.size W.drew wE := by first | exact hA.trans (hbE.mono hA.size) | exact hA.trans (((below_alloc _ _).trans (hbE.mono (below_alloc _ _).size)).mono hA.size)
       obtain ⟨d0, d1, d2, d3, d4⟩ := HD.out wE hE
       have heE : w.heap.size < wE.heap.size := Nat.lt_of_lt_of_le hebl hE.size
       have hrE : ERow wE W.heap.size r (endsE (spans (startL s)) now) := ownsRow_low hr (by first | exact hA.size | exact Nat.le_trans hA.size (below_alloc _ _).size)
       try have hgE : ∀ j u, (eL5 (bootE now))[j]? = some u → wE.cell? ⟨wA.heap.size, j, none⟩ = some u := fun j u hj => cell_later hbE (e5_news wA (bootE now) j u hj)
       try have hgE2 : ∀ j u, (eL5 (bootE now))[j]? = some u → wE.cell? ⟨W.drew.heap.size, j, none⟩ = some u := fun j u hj => cell_later hbE (hgA j u hj)
       obtain ⟨ra, rc, hrv, _⟩ := ownsRow_shape hrE
       subst hrv
       refine ⟨_, rfl, ?_⟩)
    | (obtain ⟨a5, c5, w5, hr5, hrow5, hB5⟩ := (HAp.out (wE.alloc (.cells #[.int .i64 1, .int .i64 now, .int .u32 0, .int .u32 0, .int .i64 0] 73)) (.slice ra (endsE (spans (startL s)) now).length rc) wE.heap.size).out (hE.trans ((below_alloc _ _).mono hE.size)) (World.ownsRow.alloc hrE _) (e5_news wE (bootE now))
       refine step_app_run rfl (.tmp 38) (.tmp 40) 63 rfl (.slice ra (endsE (spans (startL s)) now).length rc) (.slice (some ⟨wE.heap.size, 0, none⟩) 1 1) (by rfl) (by rfl) hr5 ?_)
    | (obtain ⟨a5, c5, w5, hr5, hrow5, hB5⟩ := (HAp.out wE (.slice ra (endsE (spans (startL s)) now).length rc) wA.heap.size).out hE hrE hgE
       refine step_app_run rfl (.tmp 38) (.tmp 40) 63 rfl (.slice ra (endsE (spans (startL s)) now).length rc) (.slice (some ⟨wA.heap.size, 0, none⟩) 1 1) (by rfl) (by rfl) hr5 ?_)
    | (obtain ⟨a5, c5, w5, hr5, hrow5, hB5⟩ := (HAp.out wE (.slice ra (endsE (spans (startL s)) now).length rc) W.drew.heap.size).out hE hrE hgE2
       refine step_app_run rfl (.tmp 38) (.tmp 40) 63 rfl (.slice ra (endsE (spans (startL s)) now).length rc) (.slice (some ⟨W.drew.heap.size, 0, none⟩) 1 1) (by rfl) (by rfl) hr5 ?_)
    | (refine step_calls rfl 33 #[.tmp 34, .tmp 41] #[32, 63] rfl #[.pointer (some ⟨B, 0, none⟩), .slice a5 (moreE (startL s) now).length c5] (by go_simp) enters_bwrite ((HWr.out _ _).out hB5 hrow5) ?_
       rintro e w6 ⟨rfl, tag6, hS6, hB6⟩
       refine ⟨_, rfl, ?_⟩))
  all_goals
    have HS6 : Hid (StepR tag tag6 base o (o + 2) w w6) := hS6
    have HB6 : Hid (BK w6 tag6 base o p.D B (wrB (b0 s) (moreE (startL s) now))) := hB6
    clear hS6 hB6 hB5 hrow5 hr5 hrE hE hr hbE hA hbA hs1 HSp HEn HAp HWr HD
    obtain ⟨X, hXX⟩ : ∃ X, X = opnE s now := ⟨_, rfl⟩
    rw [← hXX]
    have HXX : Hid (opnE s now = X) := hXX.symm
    clear hXX
    by_cases hX : X = 0
    · subst hX
      go_wp2
      go_ret2
      exact ⟨tag6, HS6.out, B, HB6.out, by rw [HXX.out]; rfl⟩
    · have HV : Hid (bookV X B = .pointer none) := if_neg hX
      go_wp2
      go_ret2
      exact ⟨tag6, HS6.out, B, HB6.out, by rw [HXX.out, HV.out]; rfl⟩

end Go.Proofs.YtafkkehcacdodaaGreat
