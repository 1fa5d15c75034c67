/- looks: a book tells what the document's book tells. -/
import Derived.Test.YtafkkehcacdodaaGreatBokRef
import Derived.Test.YtafkkehcacdodaaGreatBokTell
import Derived.Test.YtafkkehcacdodaaGreatBokOpen
import Derived.Test.YtafkkehcacdodaaGreatStrLooks
import Derived.Test.YtafkkehcacdodaaGreatTraRspans
import Derived.Test.YtafkkehcacdodaaGreatTraSame
set_option maxRecDepth 100000
namespace Go.Proofs.YtafkkehcacdodaaGreat
open Go.RowKit Go.Shelf
attribute [local go_sem ↓] Go.wp_at_zero Go.wp_at_succ

theorem eqEn (s : En) (w : World) : (binOp .neq 73 (enV s) (enV s)).run Tryz.prog w = .ok (.bool false) w := by
  have hS : Tryz.prog.underlying 73 = some (.struct (Tryz.prog.fieldsOf 73)) := by kernel_rfl
  have hp : Tryz.prog.stoodInHeld 73 = false := by kernel_rfl
  have u3 := Tryz.underlying3
  have a3 := Tryz.isAgg3
  have z3 := Tryz.sizeOf3
  have u2 := Tryz.underlying2
  have a2 := Tryz.isAgg2
  have z2 := Tryz.sizeOf2
  have uU := Tryz.underlying38
  have aU := Tryz.isAgg38
  have zU := Tryz.sizeOf38
  rw [run_neq_struct, show (10000 : Nat) = 9999 + 1 from rfl, run_equalIn_agg w 9999 73 _ _ hS hp]
  simp only [Program.fieldsOf, Tryz.underlying73]
  go_simp

theorem guardEn (op : BinOp) (x y : Operand) (xs ys : Array Value) (w : World) : (eqGuard op 73 x y (.agg xs) (.agg ys)).run Tryz.prog w = .ok () w :=
  run_eqGuard_agg w op 73 x y xs ys (by kernel_rfl)

set_option maxHeartbeats 4000000 in
/-- The lists are one. -/
theorem rsame11_ok (w : World) (v v' : Value) (B O B' O' : Nat) (l : List En) (h : Ens w v B O l) (h' : Ens w v' B' O' l) :
    Calls Tryz.prog 54 #[v, v'] w fun e w' => e = .returned (.bool true) ∧ ∃ nq, w' = w.drewN nq := by
  obtain ⟨a1, d1, rfl, g1, g2, g3, g4⟩ := h
  obtain ⟨a2, d2, rfl, f1, f2, f3, f4⟩ := h'
  have G4 : Hid (∀ i s, l[i]? = some s → EnAt w B (O + i * 5) s) := g4
  have F4 : Hid (∀ i s, l[i]? = some s → EnAt w B' (O' + i * 5) s) := f4
  unfold maxLen at g2 f2
  clear g4 f4
  go_enter Tryz.func54, Tryz.ntmps54
  go_wp2
  go_loopg [5] l.length (fun gk i wr => ∃ (k nq : Nat), k + gk = l.length ∧ i = .int .i64 k ∧ wr = w.drewN nq)
  case atStart => exact ⟨0, 0, by omega, rfl, rfl⟩
  case round =>
    obtain ⟨k, nq, hk, rfl, rfl⟩ := hrel
    by_cases hlt : k < l.length
    case neg =>
      have hge : ¬ (k : Int) < (l.length : Int) := by omega
      go_wp2
      go_ret
      exact ⟨rfl, nq, rfl⟩
    have hltI : (k : Int) < (l.length : Int) := by omega
    obtain rfl : a1 = some ⟨B, O, none⟩ := by
      rcases g3 with g3 | g3
      · exact g3
      · subst g3; simp at hlt
    obtain rfl : a2 = some ⟨B', O', none⟩ := by
      rcases f3 with f3 | f3
      · exact f3
      · subst f3; simp at hlt
    obtain ⟨s, hs⟩ : ∃ s, l[k]? = some s := ⟨_, List.getElem?_eq_getElem hlt⟩
    have c1' := enAt_later (G4.out k s hs) (below_drewN10 w nq)
    have c2' := enAt_later (F4.out k s hs) (below_drewN10 w nq)
    clear hs
    obtain ⟨wx, hwx⟩ : ∃ x, x = w.drewN nq := ⟨_, rfl⟩
    rw [← hwx] at c1' c2' ⊢
    have HWX : Hid (wx = w.drewN nq) := hwx
    clear hwx
    have hne := eqEn s
    have hgd := guardEn
    obtain ⟨s0, s1, s2, s3, s4⟩ := s
    obtain ⟨p0, p1, p2, p3, p4⟩ := c1'
    obtain ⟨q0, q1, q2, q3, q4⟩ := c2'
    simp only at p0 p1 p2 p3 p4 q0 q1 q2 q3 q4 hne
    go_wp2_with fail
    go_quiet (fail)
    rename_i nq2
    go_wp2
    go_roundg (l.length - (k + 1))
    case rel => exact ⟨k + 1, _, by omega, by go_num, by rw [HWX.out, World.drewN_drewN]⟩
    case measure => omega

/-- The document's Spans. -/
theorem rbspans_ok (w : World) (B EB EO : Nat) (kv : Value) (l : List En) (hk : w.cell? ⟨B, 1, none⟩ = some kv) (hE : Ens w kv EB EO l) (hf : Fine l) (hl : l.length ≤ 1000) :
    Calls Tryz.prog 57 #[.pointer (some ⟨B, 0, none⟩)] w fun e w' => ∃ v' SB SO, e = .returned v' ∧ Sps w' v' SB SO (spans l) ∧ Below w.heap.size w w' := by
  have HC := rspans_ok kv EB EO l w hE hf.ok (by omega)
  obtain ⟨a, c, rfl, _⟩ := hE
  go_enter Tryz.func57, Tryz.ntmps57
  go_wp2_with fail
  refine (by exact HC : Calls _ _ _ _ _).mono ?_
  rintro e w' ⟨v', rfl, h1, h2⟩
  obtain ⟨SB, SO, hs⟩ := sps_row h1
  have HS : Hid (Sps w' v' SB SO (spans l)) := hs
  clear h1 hs
  go_wp2
  go_ret
  exact ⟨_, SB, SO, rfl, HS.out, h2⟩

theorem bk_laterL {w w' : World} {tag : Nat → Nat} {base o D B : Nat} {b : Bm} (h : BK w tag base o D B b) (hb : Below w.heap.size w w') : BK w' tag base o D B b := by
  obtain ⟨p', q', kv, dv, k0, k1, k2, k3⟩ := h
  exact ⟨p', q', kv, dv, k0, k1.later hb, k2.later hb, k3.later hb⟩

set_option maxHeartbeats 8000000 in
theorem looks11_ok (w : World) (tag : Nat → Nat) (base D M B B' : Nat) (m : Bm) (hb : BK w tag base 1 D B m) (hr : RK w tag base 4 M B' m) (hf : Fine m.L) (hL : m.L.length ≤ 1000) (hD : m.D.length ≤ 1000) :
    Calls Tryz.prog 21 #[.pointer (some ⟨B, 0, none⟩), .pointer (some ⟨B', 0, none⟩), .pointer (some ⟨D, 0, none⟩)] w fun e w' => e = .returned (.bool true) ∧ Below w.heap.size w w' := by
  have HBK : Hid (BK w tag base 1 D B m) := hb
  obtain ⟨p, q, kv, dv, hpM, hMD, hMS, hPB⟩ := hr
  have hwK := hPB.wK
  have hwD := hPB.wD
  obtain ⟨KB, KO, hEK, _⟩ := win_ens hwK
  obtain ⟨DB, DO, hED, _⟩ := win_ens hwD
  have HEK : Hid (Ens w kv KB KO m.L) := hEK
  have HED : Hid (Ens w dv DB DO m.D) := hED
  have k0 := hPB.s0
  have k1 := hPB.s1
  have k2 := hPB.s2
  have k3 := hMS.t0
  have k4 := hMD.m5
  rw [hpM] at k4
  obtain ⟨ka, kc, rfl, _⟩ := hEK
  obtain ⟨da, dc, rfl, _⟩ := hED
  have KL : Hid (∀ wx, Below w.heap.size w wx → wx.cell? ⟨B', 0, none⟩ = some (.pointer (some ⟨q.T, 0, none⟩)) ∧ wx.cell? ⟨B', 1, none⟩ = some (.slice ka m.L.length kc) ∧ wx.cell? ⟨B', 2, none⟩ = some (.slice da m.D.length dc) ∧ wx.cell? ⟨q.T, 0, none⟩ = some (.pointer (some ⟨M, 0, none⟩)) ∧ wx.cell? ⟨M, 5, none⟩ = some (.int .i64 m.s.ops)) := fun wx hx =>
    ⟨cell_later hx k0, cell_later hx k1, cell_later hx k2, cell_later hx k3, cell_later hx k4⟩
  have HDo : Hid (∀ wx, Below w.heap.size w wx → ∃ p', p'.D = D ∧ PD wx tag base 1 m.s p') := fun wx hx => by
    obtain ⟨p', q', kv, dv, h0, h1, _⟩ := bk_laterL HBK.out hx
    exact ⟨p', h0, h1⟩
  have HFi : Hid (Fine m.L ∧ m.L.length ≤ 1000 ∧ m.D.length ≤ 1000) := ⟨hf, hL, hD⟩
  clear hb hMD hMS hPB hwK hwD k0 k1 k2 k3 k4 hf
  have HBd : Hid (Below w.heap.size w w.drew) := (Below.refl _ w).drew
  have K1 := KL.out w.drew HBd.out
  have HDb := bdebts_ok w.drew tag base 1 D B m (bk_laterL HBK.out HBd.out) (by omega)
  go_enter Tryz.func21, Tryz.ntmps21
  go_wp2_with fail
  go_region_held3 (fun w' => w'.cell? ⟨B', 0, none⟩ = some (.pointer (some ⟨q.T, 0, none⟩)) ∧ w'.cell? ⟨B', 1, none⟩ = some (.slice ka m.L.length kc) ∧ w'.cell? ⟨B', 2, none⟩ = some (.slice da m.D.length dc) ∧ w'.cell? ⟨q.T, 0, none⟩ = some (.pointer (some ⟨M, 0, none⟩)) ∧ w'.cell? ⟨M, 5, none⟩ = some (.int .i64 m.s.ops))
    (first | (with_reducible exact K1) | (with_reducible exact K2) | (with_reducible exact K3) | (with_reducible exact K4) | (with_reducible exact K5) | (with_reducible exact K6) | (with_reducible exact K7) | (with_reducible exact K8) | (with_reducible exact K9))
    (first
      | (go_at_call 55; refine HDb.mono ?_; rintro e w2 ⟨v2, rfl, hw2, hB2, _⟩; have HB2 : Hid (Below w.heap.size w w2) := HBd.out.trans (hB2.mono HBd.out.size); have K2 := KL.out w2 HB2.out; obtain ⟨b2, o2, hE2, _⟩ := win_ens hw2; have HSm := rsame11_ok w2 _ _ _ _ _ _ _ hE2 (HED.out.later HB2.out); obtain ⟨a2, c2, rfl, _⟩ := win_form hw2; clear hw2 hE2 hB2)
      | (go_at_call 54; refine HSm.mono ?_; rintro e w3 ⟨rfl, nq3, hx3⟩; have HB3 : Hid (Below w.heap.size w w3) := (by show Below _ _ _; rw [hx3]; exact HB2.out.trans ((below_drewN w2 nq3).mono HB2.out.size)); have K3 := KL.out w3 HB3.out; have HEt := bentries_ok w3 tag base 1 D B m (bk_laterL HBK.out HB3.out) (by have := HFi.out.2.1; omega); clear hx3 HSm)
      | (go_at_call 27; refine HEt.mono ?_; rintro e w4 ⟨v4, rfl, hw4, hB4, _⟩; have HB4 : Hid (Below w.heap.size w w4) := HB3.out.trans (hB4.mono HB3.out.size); have K4 := KL.out w4 HB4.out; obtain ⟨b4, o4, hE4, _⟩ := win_ens hw4; have HSn := rsame11_ok w4 _ _ _ _ _ _ _ hE4 (HEK.out.later HB4.out); obtain ⟨a4, c4, rfl, _⟩ := win_form hw4; clear hw4 hE4 hB4)
      | (go_at_call 54; refine HSn.mono ?_; rintro e w5 ⟨rfl, nq5, hx5⟩; have HB5 : Hid (Below w.heap.size w w5) := (by show Below _ _ _; rw [hx5]; exact HB4.out.trans ((below_drewN w4 nq5).mono HB4.out.size)); have K5 := KL.out w5 HB5.out; have HSp := bspans_ok w5 tag base 1 D B m (bk_laterL HBK.out HB5.out) HFi.out.1 HFi.out.2.1; clear hx5 HSn)
      | (go_at_call 24; refine HSp.mono ?_; rintro e w6 ⟨v6, rfl, hw6, hB6⟩; have HB6 : Hid (Below w.heap.size w w6) := HB5.out.trans (hB6.mono HB5.out.size); have K6 := KL.out w6 HB6.out; obtain ⟨b6, o6, hE6⟩ := sps_row hw6; have HE6 : Hid (Sps w6 v6 b6 o6 (spans m.L)) := hE6; have HSr := rbspans_ok w6 B' KB KO _ m.L K6.2.1 (HEK.out.later HB6.out) HFi.out.1 HFi.out.2.1; obtain ⟨a6, c6, rfl, _⟩ := hE6; clear hw6 hB6)
      | (go_at_call 57; refine HSr.mono ?_; rintro e w7 ⟨v7, b7, o7, rfl, hE7, hB7⟩; have HB7 : Hid (Below w.heap.size w w7) := HB6.out.trans (hB7.mono HB6.out.size); have K7 := KL.out w7 HB7.out; have HSq := same10_ok w7 _ _ _ _ _ _ _ (sps_later HE6.out hB7) hE7; obtain ⟨a7, c7, rfl, _⟩ := hE7; clear hB7)
      | (go_at_call 56; refine HSq.mono ?_; rintro e w8 ⟨rfl, nq8, hx8⟩; have HB8 : Hid (Below w.heap.size w w8) := (by show Below _ _ _; rw [hx8]; exact HB7.out.trans ((below_drewN w7 nq8).mono HB7.out.size)); have K8 := KL.out w8 HB8.out; obtain ⟨p8, hp8, hP8⟩ := HDo.out w8 HB8.out; have HOp := ops_ok w8 tag base 1 m.s p8 hP8; rw [hp8] at HOp; clear hx8 hP8 hp8)
      | (go_at_call 58; refine HOp.mono ?_; rintro e w9 ⟨rfl, hx9⟩; have HB9 : Hid (Below w.heap.size w w9) := (by show Below _ _ _; rw [hx9]; exact HB8.out); have K9 := KL.out w9 HB9.out; clear hx9))
  have HZ : Hid (Below w.heap.size w w9) := HB9.out
  clear K1 K2 K3 K4 K5 K6 K7 K8 K9
  go_wp2
  go_ret
  exact ⟨rfl, HZ.out⟩

end Go.Proofs.YtafkkehcacdodaaGreat
