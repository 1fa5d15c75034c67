/- The document's Who: of any spans and any question. -/
import Derived.Test.YtkkcpofaiocjpabTraWho
import Derived.Deep.DrawnRows
set_option maxRecDepth 100000
namespace Go.Proofs.Ytkkcpofaiocjpab
open Go.RowKit
attribute [local go_sem ↓] Go.wp_at_zero Go.wp_at_succ

/-- Subscribers in memory of the call's own. -/
structure ULst (w : World) (base : Nat) (v : Value) (r : List Int) : Prop where
  win : Win w 1 v r.length (r.map (Value.int .u32))
  blk : ∀ g, v.ownBlock = some g → base ≤ g

theorem ULst.later {w w' : World} {base : Nat} {v : Value} {r : List Int} (h : ULst w base v r) (hb : Below w.heap.size w w') : ULst w' base v r := ⟨h.win.later hb, h.blk⟩

theorem ULst.read {w : World} {base : Nat} {v : Value} {r : List Int} (h : ULst w base v r) (hne : 0 < r.length) : ∃ B O c, v = .slice (some ⟨B, O, none⟩) r.length c ∧ r.length ≤ c ∧ c ≤ maxLen ∧ ∀ i, i < r.length → w.cell? ⟨B, O + i, none⟩ = some (.int .u32 (r.getD i 0)) := by
  rcases h.win.2 with ⟨_, h0⟩ | ⟨B, O, c, cs, e, hb, h2, h3, h4, h5⟩
  · omega
  refine ⟨B, O, c, e, h2, h3, fun i hi => ?_⟩
  exact hb.range O (r.length * 1) i (.int .u32 (r.getD i 0)) (by rw [h5]; simp [List.getD, List.getElem?_eq_getElem hi])

theorem ULst.us {w : World} {base : Nat} {v : Value} {r : List Int} (h : ULst w base v r) : ∃ B O, Us w v B O r := by
  rcases Nat.eq_zero_or_pos r.length with h0 | h0
  · have : r = [] := List.eq_nil_of_length_eq_zero h0
    subst this
    rcases h.win.2 with ⟨hv, _⟩ | ⟨B, O, c, cs, e, hb, h2, h3, h4, h5⟩
    · exact ⟨0, 0, none, 0, hv, by simp, by decide, .inr rfl, fun i hi => by simp at hi⟩
    · exact ⟨B, O, _, c, e, h2, h3, .inl rfl, fun i hi => by simp at hi⟩
  · obtain ⟨B, O, c, e, h2, h3, h4⟩ := h.read h0
    exact ⟨B, O, _, c, e, h2, h3, .inl rfl, h4⟩

theorem ULst.shape {w : World} {base : Nat} {v : Value} {r : List Int} (h : ULst w base v r) : ∃ a c, v = .slice a r.length c ∧ r.length ≤ c ∧ c ≤ maxLen := by
  rcases h.win.2 with ⟨hv, h0⟩ | ⟨B, O, c, cs, e, hb, h2, h3, h4, h5⟩
  · exact ⟨none, 0, by rw [h0]; exact hv, by omega, by decide⟩
  · exact ⟨_, c, e, h2, h3⟩

/-- Subscribers behind a row. -/
theorem append_us (W : World) (base : Nat) (v : Value) (r : List Int) (a : Option Addr) (c : Nat) (news : List Int) (hv : ULst W base v r) (hsrc : (∃ B O, a = some ⟨B, O, none⟩ ∧ ∀ i, i < news.length → W.cell? ⟨B, O + i, none⟩ = some (.int .u32 (news.getD i 0))) ∨ news = [])
    (hbase : base ≤ W.heap.size) (hlen : r.length + news.length ≤ 1000000) :
    ∃ v' w', (Builtin.append_ #[27, 27] 27 #[v, .slice a news.length c]).run Try.prog W = .ok v' w' ∧ ULst w' base v' (r ++ news) ∧ Below base W w' := by
  obtain ⟨i0, hi, hz0, hz1, hz2⟩ := info_parts infoU
  obtain ⟨v', w', hr, hw, hgr, hat⟩ := win_append (P := Try.prog) W 27 27 23 i0 (.int .u32 0) 1 4 Try.underlying27 hi hz0 hz1 hz2 rfl (by decide) v r.length (r.map (Value.int .u32)) hv.win
    a news.length c (news.map (Value.int .u32)) (by simp) (by
      rcases hsrc with ⟨B, O, rfl, hc⟩ | rfl
      · refine .inl ⟨_, rfl, fun j u hj => ?_⟩
        have hjl : j < news.length := by have := (List.getElem?_eq_some_iff.1 hj).1; simpa using this
        rw [add_at, hc j hjl]
        rw [List.getElem?_map, List.getElem?_eq_getElem hjl] at hj
        simp at hj
        rw [← hj]
        simp [List.getD, List.getElem?_eq_getElem hjl]
      · exact .inr rfl) (by
      intro u hu
      obtain ⟨x, _, rfl⟩ := List.mem_map.1 hu
      rfl) (by unfold maxLen; omega) (by omega)
  refine ⟨v', w', hr, ⟨by rw [List.length_append, List.map_append]; exact hw, fun g hg => ?_⟩, (Below.refl base W).grown hgr hbase (fun k hk => hv.blk k hk)⟩
  rcases hat with h | h
  · exact hv.blk g (by rw [← h]; exact hg)
  · rw [h] at hg
    injection hg with hg
    omega

/-- Where a subscriber belongs. -/
theorem ins_mem {r : List Int} {x : Int} {k : Nat} (y : Int) : y ∈ r.take k ++ [x] ++ r.drop k ↔ y ∈ r ∨ y = x := by
  have : y ∈ r ↔ y ∈ r.take k ∨ y ∈ r.drop k := by rw [← List.mem_append, List.take_append_drop]
  rw [this]
  simp only [List.mem_append, List.mem_singleton]
  constructor
  · rintro ((h | h) | h)
    · exact .inl (.inl h)
    · exact .inr h
    · exact .inl (.inr h)
  · rintro ((h | h) | h)
    · exact .inl (.inl h)
    · exact .inr h
    · exact .inl (.inr h)

theorem ins_up {r : List Int} {x : Int} {k : Nat} (hup : r.Pairwise (· < ·)) (hlow : ∀ j y, j < k → r[j]? = some y → y < x) (hk : k ≤ r.length) (hge : ∀ y, r[k]? = some y → x < y) : (r.take k ++ [x] ++ r.drop k).Pairwise (· < ·) := by
  have h1 : (r.take k).Pairwise (· < ·) := hup.sublist (List.take_sublist _ _)
  have h2 : (r.drop k).Pairwise (· < ·) := hup.sublist (List.drop_sublist _ _)
  have hl : ∀ y ∈ r.take k, y < x := fun y hy => by
    obtain ⟨j, hj, rfl⟩ := List.mem_iff_getElem.1 hy
    rw [List.length_take] at hj
    exact hlow j _ (by omega) (by rw [List.getElem_take]; exact List.getElem?_eq_getElem (by omega))
  have hr : ∀ y ∈ r.drop k, x < y := fun y hy => by
    obtain ⟨j, hj, rfl⟩ := List.mem_iff_getElem.1 hy
    rw [List.length_drop] at hj
    rw [List.getElem_drop]
    have h0 : k < r.length := by omega
    have e0 := hge _ (List.getElem?_eq_getElem h0)
    rcases Nat.eq_zero_or_pos j with hz | hz
    · subst hz; simpa using e0
    · have := List.pairwise_iff_getElem.1 hup k (k + j) h0 (by omega) (by omega)
      omega
  rw [List.append_assoc, List.pairwise_append]
  refine ⟨h1, ?_, ?_⟩
  · rw [List.pairwise_append]
    exact ⟨by simp, h2, fun a ha b hb => by rw [List.mem_singleton.1 ha]; exact hr b hb⟩
  · intro a ha b hb
    rcases List.mem_append.1 hb with hb | hb
    · rw [List.mem_singleton.1 hb]; exact hl a ha
    · have e1 := hl a ha
      have e2 := hr b hb
      omega

/-- The list anew, with one more in it. -/
theorem insert_runs (W : World) (base : Nat) (ra ra' : Option Addr) (rc rc' : Nat) (c : List Int) (j : Nat) (x : Int) (h : ULst W base (.slice ra c.length rc) c) (hj : j ≤ c.length) (hbase : base ≤ W.heap.size) (hc : c.length ≤ 1000)
    (hra : (∃ B O, ra = some ⟨B, O, none⟩ ∧ (ra' = some ⟨B, O + j, none⟩ ∨ j = c.length)) ∨ c = []) :
    ∃ v1 W2, (Builtin.append_ #[27, 27] 27 #[.slice (some ⟨W.heap.size, 0, none⟩) 0 0, .slice ra j rc]).run Try.prog (W.alloc (.cells #[] 23)) = .ok v1 W2 ∧ Below base W W2 ∧
      ∃ v2 W3, (Builtin.append_ #[27, 27] 27 #[v1, .slice (some ⟨W2.heap.size, 0, none⟩) 1 1]).run Try.prog (W2.alloc (.cells #[.int .u32 x] 23)) = .ok v2 W3 ∧
      ∃ v3 W4, (Builtin.append_ #[27, 27] 27 #[v2, .slice ra' (c.length - j) rc']).run Try.prog W3 = .ok v3 W4 ∧ ULst W4 base v3 (c.take j ++ [x] ++ c.drop j) ∧ Below base W W4 := by
  have hW1 : Below W.heap.size W (W.alloc (.cells #[] 23)) := below_alloc _ _
  have hb1 : base ≤ (W.alloc (.cells #[] 23)).heap.size := Nat.le_trans hbase hW1.size
  have h0 : ULst (W.alloc (.cells #[] 23)) W.heap.size (.slice (some ⟨W.heap.size, 0, none⟩) 0 0) [] :=
    ⟨⟨by simp, .inr ⟨W.heap.size, 0, 0, [], rfl, blk_new W #[] 23, Nat.le_refl _, by decide, by simp, by simp⟩⟩, fun g hg => by simp [Value.ownBlock] at hg; omega⟩
  have hcells : ∀ w2, Below W.heap.size W w2 → ∀ B O, ra = some ⟨B, O, none⟩ → ∀ i, i < c.length → w2.cell? ⟨B, O + i, none⟩ = some (.int .u32 (c.getD i 0)) := fun w2 h2 B O e i hi => by
    obtain ⟨B', O', c', e1, _, _, hg⟩ := h.read (by omega)
    injection e1 with e1a _ _
    rw [e] at e1a
    injection e1a with e1a
    injection e1a with e2 e3
    subst e2; subst e3
    exact cell_later h2 (hg i hi)
  have htl : (c.take j).length = j := by rw [List.length_take]; omega
  obtain ⟨v1, W2, hr1, hu1, hbb1⟩ := append_us _ W.heap.size _ [] ra rc (c.take j) h0 (by
    rcases hra with ⟨B, O, e, _⟩ | e
    · refine .inl ⟨B, O, e, fun i hi => ?_⟩
      rw [htl] at hi
      rw [hcells _ hW1 B O e i (by omega)]
      simp [List.getD, hi]
    · exact .inr (by rw [e]; simp)) hW1.size (by rw [htl]; simp; omega)
  rw [htl] at hr1
  have hB2 : Below W.heap.size W W2 := hW1.trans hbb1
  have hu1' : ULst W2 W.heap.size v1 (c.take j) := by simpa using hu1
  have hBa : Below W2.heap.size W2 (W2.alloc (.cells #[.int .u32 x] 23)) := below_alloc _ _
  obtain ⟨v2, W3, hr2, hu2, hbb2⟩ := append_us (W2.alloc (.cells #[.int .u32 x] 23)) W.heap.size v1 (c.take j) (some ⟨W2.heap.size, 0, none⟩) 1 [x] (hu1'.later hBa) (.inl ⟨_, _, rfl, fun i hi => by
    have : i = 0 := by simp at hi; omega
    subst this
    simp⟩) (Nat.le_trans hB2.size hBa.size) (by rw [htl]; simp; omega)
  have hB3 : Below W.heap.size W W3 := (hB2.trans (hBa.mono hB2.size)).trans hbb2
  have hdl : (c.drop j).length = c.length - j := by simp
  obtain ⟨v3, W4, hr3, hu3, hbb3⟩ := append_us W3 W.heap.size v2 (c.take j ++ [x]) ra' rc' (c.drop j) hu2 (by
    rcases hra with ⟨B, O, e, e'⟩ | e
    · rcases e' with e' | e'
      case inr => exact .inr (by rw [e']; simp)
      refine .inl ⟨B, O + j, e', fun i hi => ?_⟩
      rw [hdl] at hi
      rw [Nat.add_assoc, hcells _ hB3 B O e (j + i) (by omega)]
      simp [List.getD, List.getElem?_drop]
    · exact .inr (by rw [e]; simp)) hB3.size (by simp; omega)
  rw [hdl] at hr3
  exact ⟨v1, W2, hr1, hB2.mono hbase, v2, W3, hr2, v3, W4, hr3, ⟨hu3.win, fun g hg => Nat.le_trans hbase (hu3.blk g hg)⟩, (hB3.trans hbb3).mono hbase⟩

theorem whoOf_no {l : List Sp} {i : Nat} {s : Sp} {a k t : Int} {c : List Int} (hs : l[i]? = some s) (h : WhoOf (l.take i) a k t c) (hh : hit s a k t = false) : WhoOf (l.take (i + 1)) a k t c :=
  ⟨h.up, fun x => by rw [subsAt_take hs, hh]; simpa using h.mem x⟩

theorem whoOf_same {l : List Sp} {i : Nat} {s : Sp} {a k t : Int} {c : List Int} (hs : l[i]? = some s) (h : WhoOf (l.take i) a k t c) (hm : s.sub ∈ c) : WhoOf (l.take (i + 1)) a k t c :=
  ⟨h.up, fun x => by
    rw [subsAt_take hs, List.mem_append, ← h.mem x]
    constructor
    · exact .inl
    · rintro (h' | h')
      · exact h'
      · split at h'
        · rw [List.mem_singleton.1 h']; exact hm
        · cases h'⟩

theorem whoOf_ins {l : List Sp} {i : Nat} {s : Sp} {a k t : Int} {c : List Int} {j : Nat} (hs : l[i]? = some s) (h : WhoOf (l.take i) a k t c) (hh : hit s a k t = true) (hlow : ∀ p y, p < j → c[p]? = some y → y < s.sub) (hj : j ≤ c.length) (hge : ∀ y, c[j]? = some y → s.sub < y) :
    WhoOf (l.take (i + 1)) a k t (c.take j ++ [s.sub] ++ c.drop j) :=
  ⟨ins_up h.up hlow hj hge, fun x => by
    rw [ins_mem, subsAt_take hs, hh, List.mem_append, ← h.mem x]
    simp⟩

set_option maxHeartbeats 8000000 in
theorem rwho_ok (v : Value) (B O : Nat) (l : List Sp) (a k tt : Int) (w : World) (h : Sps w v B O l) (hl : l.length ≤ 1000) :
    Calls Try.prog 5 #[v, .int .u32 a, .int .i64 k, .int .i64 tt] w fun e w' => ∃ v' c, e = .returned v' ∧ ULst w' w.heap.size v' c ∧ WhoOf l a k tt c ∧ Below w.heap.size w w' := by
  obtain ⟨ad, cap, rfl, h2, h3, h4, h5⟩ := h
  have H5 : Hid (∀ i s, l[i]? = some s → SpAt w B (O + i * 6) s) := h5
  unfold maxLen at h3
  clear h5
  go_enter Try.func5, Try.ntmps5
  go_wp2
  go_loopg [9, 10] l.length (fun gk rv iv wr => ∃ (i : Nat) (r : Value) (c : List Int), i + gk = l.length ∧ r = rv ∧ iv = .int .i64 (i : Int) ∧ ULst wr w.heap.size r c ∧ WhoOf (l.take i) a k tt c ∧ c.length ≤ i ∧ (c = [] → r = .slice none 0 0) ∧ Below w.heap.size w wr)
  case atStart => exact ⟨0, _, [], by omega, rfl, rfl, ⟨win_nil _ _, fun g hg => by cases hg⟩, ⟨List.Pairwise.nil, fun x => by simp [subsAt]⟩, by simp, fun _ => rfl, Below.refl _ _⟩
  case round =>
    obtain ⟨i, r, c, hi, rfl, rfl, hrow, hwho, hcl, hnil, hbel⟩ := hrel
    have HR : Hid (ULst wr w.heap.size r c) := hrow
    have HWh : Hid (WhoOf (l.take i) a k tt c) := hwho
    have HNil : Hid (c = [] → r = .slice none 0 0) := hnil
    have HB : Hid (Below w.heap.size w wr) := hbel
    have HCl : Hid (c.length ≤ i) := hcl
    clear hrow hwho hnil hcl
    by_cases hlt : i < l.length
    case neg =>
      have hie : i = l.length := by omega
      subst hie
      have hge : ¬ ((l.length : Int) < (l.length : Int)) := by omega
      clear hlt hbel
      go_wp2
      go_ret
      exact ⟨_, rfl, c, HR.out, by have := HWh.out; rwa [List.take_length] at this, HB.out⟩
    obtain ⟨s, hs⟩ : ∃ s, l[i]? = some s := ⟨_, List.getElem?_eq_getElem hlt⟩
    obtain rfl : ad = some ⟨B, O, none⟩ := by
      rcases h4 with h4 | h4
      · exact h4
      · subst h4; simp at hlt
    obtain ⟨c0, c1, c2, c3, c4, c5⟩ := spAt_later (H5.out i s hs) hbel
    have hiI : (i : Int) < (l.length : Int) := by omega
    have HS : Hid (l[i]? = some s) := hs
    have HAt := fun W' => at_any s tt W'
    have HHit : Hid (hit s a k tt = (s.here a k && (decide (s.frm ≤ tt) && (s.opn || decide (tt ≤ s.til))))) := by show _ = _; unfold hit; rw [Bool.and_assoc]
    have KC : Hid (∀ wx, Below w.heap.size w wx → SpAt wx B (O + i * 6) s) := fun wx hx => spAt_later (H5.out i s HS.out) hx
    clear hs hlt hbel
    obtain ⟨s0, s1, s2, s3, s4, s5⟩ := s
    simp only at c0 c1 c2 c3 c4 c5
    by_cases h1 : s1 = a
    case neg =>
      have HH : Hid (hit ⟨s0, s1, s2, s3, s4, s5⟩ a k tt = false) := by show _ = _; rw [HHit.out]; simp [Sp.here, h1]
      have h1' : (s1 != a) = true := by simp [h1]
      go_wp2
      go_roundg (l.length - (i + 1))
      case rel => exact ⟨i + 1, _, c, by omega, rfl, by go_num, HR.out, whoOf_no HS.out HWh.out HH.out, by have := HCl.out; omega, HNil.out, HB.out⟩
      case measure => omega
    subst h1
    by_cases h2' : s2 = k
    case neg =>
      have HH : Hid (hit ⟨s0, s1, s2, s3, s4, s5⟩ s1 k tt = false) := by show _ = _; rw [HHit.out]; simp [Sp.here, h2']
      have h2'' : (s2 != k) = true := by simp [h2']
      go_wp2
      go_roundg (l.length - (i + 1))
      case rel => exact ⟨i + 1, _, c, by omega, rfl, by go_num, HR.out, whoOf_no HS.out HWh.out HH.out, by have := HCl.out; omega, HNil.out, HB.out⟩
      case measure => omega
    subst h2'
    have HHit2 : Hid (hit ⟨s0, s1, s2, s3, s4, s5⟩ s1 s2 tt = (decide (s3 ≤ tt) && (s5 || decide (tt ≤ s4)))) := by show _ = _; rw [HHit.out]; simp [Sp.here]
    generalize hah : (decide (s3 ≤ tt) && (s5 || decide (tt ≤ s4))) = hb at *
    clear hah
    cases hb with
    | false =>
      go_wp2_with (go_at_call 11; refine (HAt _).mono ?_; rintro e w1 ⟨rfl, hB1⟩; have HB1 : Hid (Below wr.heap.size wr w1) := hB1; clear hB1)
      go_roundg (l.length - (i + 1))
      case rel => exact ⟨i + 1, _, c, by omega, rfl, by go_num, HR.out.later HB1.out, whoOf_no HS.out HWh.out HHit2.out, by have := HCl.out; omega, HNil.out, HB.out.trans (HB1.out.mono HB.out.size)⟩
      case measure => omega
    | true =>
      obtain ⟨ra, rc, rfl, hr1, hr2⟩ := HR.out.shape
      unfold maxLen at hr2
      go_wp2_with (go_at_call 11; refine (HAt _).mono ?_; rintro e w1 ⟨rfl, hB1⟩; have HB1 : Hid (Below wr.heap.size wr w1) := hB1; clear hB1)
      have HR1 : Hid (ULst w1 w.heap.size (.slice ra c.length rc) c) := HR.out.later HB1.out
      have HBw1 : Hid (Below w.heap.size w w1) := HB.out.trans (HB1.out.mono HB.out.size)
      clear c0 c1 c2 c3 c4 c5 HAt
      go_loopg [11] c.length (fun gk jv wq => ∃ (j nq : Nat), j + gk = c.length ∧ jv = .int .i64 (j : Int) ∧ Hid (∀ p y, p < j → c[p]? = some y → y < s0) ∧ wq = w1.drewN nq)
      case atStart => exact ⟨0, 0, by omega, rfl, fun p y hp => by omega, rfl⟩
      case round =>
        obtain ⟨j, nq, hj, rfl, hlow, hwq⟩ := hrel
        have HWQ : Hid (wr = w1.drewN nq) := hwq
        have hb0 : Below w1.heap.size w1 wr := by rw [hwq]; exact below_drewN10 w1 nq
        have HRx : Hid (ULst wr w.heap.size (.slice ra c.length rc) c) := HR1.out.later hb0
        have HBx : Hid (Below w.heap.size w wr) := HBw1.out.trans (hb0.mono HBw1.out.size)
        obtain ⟨c0, -, -, -, -, -⟩ := KC.out wr HBx.out
        simp only at c0
        clear hwq hb0
        by_cases hlt : j < c.length
        · have hjI : (j : Int) < (c.length : Int) := by omega
          obtain ⟨Bq, Oq, cq, e1, g1, g2, g3⟩ := HRx.out.read (by omega)
          injection e1 with e1a _ e1c
          subst e1a; subst e1c
          have cj := g3 j hlt
          have HCJ : Hid (c[j]? = some (c.getD j 0)) := by show _ = _; rw [List.getElem?_eq_getElem hlt]; simp [List.getD, List.getElem?_eq_getElem hlt]
          clear g3
          generalize c.getD j 0 = y at *
          by_cases hy : y < s0
          · have HLow : Hid (∀ p z, p < j + 1 → c[p]? = some z → z < s0) := fun p z hp hz => by
              by_cases e : p = j
              · subst e; rw [HCJ.out] at hz; cases hz; exact hy
              · exact hlow.out p z (by omega) hz
            clear hlow hlt
            go_wp2_with fail
            go_quiet (fail)
            rename Nat => nq2
            go_wp2
            go_roundg (c.length - (j + 1))
            case rel => exact ⟨j + 1, _, by omega, by go_num, HLow, by rw [HWQ.out, World.drewN_drewN]⟩
            case measure => omega
          · have hy' : ¬ y < s0 := hy
            have hyd : decide (y < s0) = false := by simp [hy]
            have HLow := hlow
            clear hlow
            by_cases hye : y = s0
            · subst hye
              have HM : Hid (y ∈ c) := List.mem_of_getElem? HCJ.out
              clear hlt hyd
              go_wp2_with fail
              go_quiet (fail)
              rename Nat => nq2
              obtain ⟨wx, hwx⟩ : ∃ x, x = wr.drewN nq2 := ⟨_, rfl⟩
              have c0' : wx.cell? ⟨B, O + i * 6, none⟩ = some (.int .u32 y) := by rw [hwx]; exact c0
              have cj' : wx.cell? ⟨Bq, Oq + j, none⟩ = some (.int .u32 y) := by rw [hwx]; exact cj
              rw [← hwx]
              have HWX : Hid (wx = wr.drewN nq2) := hwx
              clear hwx c0 cj
              go_wp2_with fail
              go_quiet (fail)
              rename Nat => nq3
              have HBz : Hid (Below wr.heap.size wr (wx.drewN nq3)) := by show Below _ _ _; rw [HWX.out]; exact (below_drewN10 wr nq2).trans (below_drewN10 (wr.drewN nq2) nq3)
              go_wp2
              go_roundg (l.length - (i + 1))
              case rel => exact ⟨i + 1, _, c, by omega, rfl, by go_num, HRx.out.later HBz.out, whoOf_same HS.out HWh.out HM.out, by have := HCl.out; omega, HNil.out, HBx.out.trans (HBz.out.mono HBx.out.size)⟩
              case measure => omega
            · have hye' : (y == s0) = false := by simp [hye]
              have HGe : Hid (∀ z, c[j]? = some z → s0 < z) := fun z hz => by rw [HCJ.out] at hz; cases hz; omega
              clear hlt hy hye
              go_wp2_with fail
              go_quiet (fail)
              rename Nat => nq2
              obtain ⟨wx, hwx⟩ : ∃ x, x = wr.drewN nq2 := ⟨_, rfl⟩
              have c0' : wx.cell? ⟨B, O + i * 6, none⟩ = some (.int .u32 s0) := by rw [hwx]; exact c0
              have cj' : wx.cell? ⟨Bq, Oq + j, none⟩ = some (.int .u32 y) := by rw [hwx]; exact cj
              rw [← hwx]
              have HWX : Hid (wx = wr.drewN nq2) := hwx
              clear hwx c0 cj
              go_wp2_with fail
              go_quiet (fail)
              rename Nat => nq3
              have HBz : Hid (Below wr.heap.size wr (wx.drewN nq3)) := by show Below _ _ _; rw [HWX.out]; exact (below_drewN10 wr nq2).trans (below_drewN10 (wr.drewN nq2) nq3)
              obtain ⟨wz, hwz⟩ : ∃ x, x = wx.drewN nq3 := ⟨_, rfl⟩
              rw [← hwz] at HBz ⊢
              clear hwz c0' cj'
              have hjle : (j : Int) ≤ (c.length : Int) := by omega
              have HRz : Hid (ULst wz w.heap.size (.slice (some ⟨Bq, Oq, none⟩) c.length rc) c) := HRx.out.later HBz
              have HBwz : Hid (Below w.heap.size w wz) := HBx.out.trans (HBz.mono HBx.out.size)
              obtain ⟨v1, W2, hr1, hb2, v2, W3, hr2, v3, W4, hr3, hu4, hb4⟩ := insert_runs wz w.heap.size (some ⟨Bq, Oq, none⟩) (some ⟨Bq, Oq + j, none⟩) rc (rc - j) c j s0 HRz.out (by omega) HBwz.out.size (by have := HCl.out; omega) (.inl ⟨Bq, Oq, rfl, .inl rfl⟩)
              obtain ⟨c02, -, -, -, -, -⟩ := KC.out W2 (HBwz.out.trans hb2)
              simp only at c02
              have HU4 : Hid (ULst W4 w.heap.size v3 (c.take j ++ [s0] ++ c.drop j)) := hu4
              have HB4 : Hid (Below w.heap.size w W4) := HBwz.out.trans hb4
              have HW4 : Hid (WhoOf (l.take (i + 1)) s1 s2 tt (c.take j ++ [s0] ++ c.drop j)) := whoOf_ins HS.out HWh.out HHit2.out HLow.out (by omega) HGe.out
              have HL4 : Hid ((c.take j ++ [s0] ++ c.drop j).length ≤ i + 1) := by
                show _ ≤ _
                have := HCl.out
                simp only [List.length_append, List.length_take, List.length_drop, List.length_singleton]
                omega
              clear hu4 hb4 hb2 HBz
              go_wp2_with (first
                | (at_builtin; refine append_here _ _ _ rfl ?_; refine wpl_append_run rfl _ _ _ rfl _ _ rfl rfl hr1 ?_; clear hr1)
                | (at_builtin; refine append_here _ _ _ rfl ?_; refine wpl_append_run rfl _ _ _ rfl _ _ rfl rfl hr2 ?_; clear hr2)
                | (at_builtin; refine append_here _ _ _ rfl ?_; refine wpl_append_run rfl _ _ _ rfl _ _ rfl rfl hr3 ?_))
              go_roundg (l.length - (i + 1))
              case rel => exact ⟨i + 1, v3, _, by omega, rfl, by go_num, HU4.out, HW4.out, HL4.out, fun h => (by simp at h), HB4.out⟩
              case measure => omega
        · have hje : j = c.length := by omega
          subst hje
          have HLow := hlow
          have hjd : ¬ ((c.length : Int) < (c.length : Int)) := by omega
          have hjd' : decide ((c.length : Int) < (c.length : Int)) = false := by simp
          clear hlt hlow
          go_wp2_with fail
          go_quiet (fail)
          rename Nat => nq2
          obtain ⟨wx, hwx⟩ : ∃ x, x = wr.drewN nq2 := ⟨_, rfl⟩
          rw [← hwx]
          have HWX : Hid (wx = wr.drewN nq2) := hwx
          clear hwx
          go_wp2_with fail
          go_quiet (fail)
          rename Nat => nq3
          have HBz : Hid (Below wr.heap.size wr (wx.drewN nq3)) := by show Below _ _ _; rw [HWX.out]; exact (below_drewN10 wr nq2).trans (below_drewN10 (wr.drewN nq2) nq3)
          obtain ⟨wz, hwz⟩ : ∃ x, x = wx.drewN nq3 := ⟨_, rfl⟩
          rw [← hwz] at HBz ⊢
          clear hwz c0
          by_cases hcn : c = []
          · have e1 := HNil.out hcn
            have hl0 : c.length = 0 := by rw [hcn]; rfl
            injection e1 with e1a _ e1c
            subst e1a; subst e1c
            have HRz : Hid (ULst wz w.heap.size (.slice none c.length 0) c) := HRx.out.later HBz
            have HBwz : Hid (Below w.heap.size w wz) := HBx.out.trans (HBz.mono HBx.out.size)
            obtain ⟨v1, W2, hr1, hb2, v2, W3, hr2, v3, W4, hr3, hu4, hb4⟩ := insert_runs wz w.heap.size none none 0 0 c c.length s0 HRz.out (Nat.le_refl _) HBwz.out.size (by have := HCl.out; omega) (.inr hcn)
            obtain ⟨c02, -, -, -, -, -⟩ := KC.out W2 (HBwz.out.trans hb2)
            simp only at c02
            rw [Nat.sub_self] at hr3
            have HU4 : Hid (ULst W4 w.heap.size v3 (c.take c.length ++ [s0] ++ c.drop c.length)) := hu4
            have HB4 : Hid (Below w.heap.size w W4) := HBwz.out.trans hb4
            have HW4 : Hid (WhoOf (l.take (i + 1)) s1 s2 tt (c.take c.length ++ [s0] ++ c.drop c.length)) := whoOf_ins HS.out HWh.out HHit2.out HLow.out (Nat.le_refl _) (fun y hy => by rw [List.getElem?_eq_none (Nat.le_refl _)] at hy; cases hy)
            have HL4 : Hid ((c.take c.length ++ [s0] ++ c.drop c.length).length ≤ i + 1) := by
              show _ ≤ _
              have := HCl.out
              simp
              omega
            clear hu4 hb4 hb2 HBz
            simp only [hl0, Int.natCast_zero] at hr1 hr3 ⊢
            clear hjd hjd' hcn hl0
            go_wp2_with (first
              | (at_builtin; refine append_here _ _ _ rfl ?_; refine wpl_append_run rfl _ _ _ rfl _ _ rfl rfl hr1 ?_; clear hr1)
              | (at_builtin; refine append_here _ _ _ rfl ?_; refine wpl_append_run rfl _ _ _ rfl _ _ rfl rfl hr2 ?_; clear hr2)
              | (at_builtin; refine append_here _ _ _ rfl ?_; refine wpl_append_run rfl _ _ _ rfl _ _ rfl rfl hr3 ?_))
            go_roundg (l.length - (i + 1))
            case rel => exact ⟨i + 1, v3, _, by omega, rfl, by go_num, HU4.out, HW4.out, HL4.out, fun h => (by simp at h), HB4.out⟩
            case measure => omega
          · obtain ⟨Bq, Oq, cq, e1, g1, g2, g3⟩ := HRx.out.read (List.length_pos_iff.2 hcn)
            injection e1 with e1a _ e1c
            subst e1a; subst e1c
            clear g3
            by_cases hrc : rc = c.length
            · subst hrc
              have HRz : Hid (ULst wz w.heap.size (.slice (some ⟨Bq, Oq, none⟩) c.length c.length) c) := HRx.out.later HBz
              have HBwz : Hid (Below w.heap.size w wz) := HBx.out.trans (HBz.mono HBx.out.size)
              obtain ⟨v1, W2, hr1, hb2, v2, W3, hr2, v3, W4, hr3, hu4, hb4⟩ := insert_runs wz w.heap.size (some ⟨Bq, Oq, none⟩) (some ⟨Bq, Oq, none⟩) c.length 0 c c.length s0 HRz.out (Nat.le_refl _) HBwz.out.size (by have := HCl.out; omega) (.inl ⟨Bq, Oq, rfl, .inr rfl⟩)
              obtain ⟨c02, -, -, -, -, -⟩ := KC.out W2 (HBwz.out.trans hb2)
              simp only at c02
              rw [Nat.sub_self] at hr3
              have HU4 : Hid (ULst W4 w.heap.size v3 (c.take c.length ++ [s0] ++ c.drop c.length)) := hu4
              have HB4 : Hid (Below w.heap.size w W4) := HBwz.out.trans hb4
              have HW4 : Hid (WhoOf (l.take (i + 1)) s1 s2 tt (c.take c.length ++ [s0] ++ c.drop c.length)) := whoOf_ins HS.out HWh.out HHit2.out HLow.out (Nat.le_refl _) (fun y hy => by rw [List.getElem?_eq_none (Nat.le_refl _)] at hy; cases hy)
              have HL4 : Hid ((c.take c.length ++ [s0] ++ c.drop c.length).length ≤ i + 1) := by
                show _ ≤ _
                have := HCl.out
                simp
                omega
              clear hu4 hb4 hb2 HBz
              skip
              go_wp2_with (first
                | (at_builtin; refine append_here _ _ _ rfl ?_; refine wpl_append_run rfl _ _ _ rfl _ _ rfl rfl hr1 ?_; clear hr1)
                | (at_builtin; refine append_here _ _ _ rfl ?_; refine wpl_append_run rfl _ _ _ rfl _ _ rfl rfl hr2 ?_; clear hr2)
                | (at_builtin; refine append_here _ _ _ rfl ?_; refine wpl_append_run rfl _ _ _ rfl _ _ rfl rfl hr3 ?_))
              go_roundg (l.length - (i + 1))
              case rel => exact ⟨i + 1, v3, _, by omega, rfl, by go_num, HU4.out, HW4.out, HL4.out, fun h => (by simp at h), HB4.out⟩
              case measure => omega
            · have hrl : (c.length : Int) ≤ (rc : Int) := by omega
              have HRz : Hid (ULst wz w.heap.size (.slice (some ⟨Bq, Oq, none⟩) c.length rc) c) := HRx.out.later HBz
              have HBwz : Hid (Below w.heap.size w wz) := HBx.out.trans (HBz.mono HBx.out.size)
              obtain ⟨v1, W2, hr1, hb2, v2, W3, hr2, v3, W4, hr3, hu4, hb4⟩ := insert_runs wz w.heap.size (some ⟨Bq, Oq, none⟩) (some ⟨Bq, Oq + c.length, none⟩) rc (rc - c.length) c c.length s0 HRz.out (Nat.le_refl _) HBwz.out.size (by have := HCl.out; omega) (.inl ⟨Bq, Oq, rfl, .inl rfl⟩)
              obtain ⟨c02, -, -, -, -, -⟩ := KC.out W2 (HBwz.out.trans hb2)
              simp only at c02
              rw [Nat.sub_self] at hr3
              have HU4 : Hid (ULst W4 w.heap.size v3 (c.take c.length ++ [s0] ++ c.drop c.length)) := hu4
              have HB4 : Hid (Below w.heap.size w W4) := HBwz.out.trans hb4
              have HW4 : Hid (WhoOf (l.take (i + 1)) s1 s2 tt (c.take c.length ++ [s0] ++ c.drop c.length)) := whoOf_ins HS.out HWh.out HHit2.out HLow.out (Nat.le_refl _) (fun y hy => by rw [List.getElem?_eq_none (Nat.le_refl _)] at hy; cases hy)
              have HL4 : Hid ((c.take c.length ++ [s0] ++ c.drop c.length).length ≤ i + 1) := by
                show _ ≤ _
                have := HCl.out
                simp
                omega
              clear hu4 hb4 hb2 HBz
              skip
              go_wp2_with (first
                | (at_builtin; refine append_here _ _ _ rfl ?_; refine wpl_append_run rfl _ _ _ rfl _ _ rfl rfl hr1 ?_; clear hr1)
                | (at_builtin; refine append_here _ _ _ rfl ?_; refine wpl_append_run rfl _ _ _ rfl _ _ rfl rfl hr2 ?_; clear hr2)
                | (at_builtin; refine append_here _ _ _ rfl ?_; refine wpl_append_run rfl _ _ _ rfl _ _ rfl rfl hr3 ?_))
              go_roundg (l.length - (i + 1))
              case rel => exact ⟨i + 1, v3, _, by omega, rfl, by go_num, HU4.out, HW4.out, HL4.out, fun h => (by simp at h), HB4.out⟩
              case measure => omega

end Go.Proofs.Ytkkcpofaiocjpab
