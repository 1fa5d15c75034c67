/- A new disk and its book; awake. -/
import Derived.Test.YtafkkehcacdodaaGreatBokOpen
import Derived.KernelRfl
set_option maxRecDepth 100000
namespace Go.Proofs.YtafkkehcacdodaaGreat
open Go.RowKit Go.Shelf

theorem start_new (n : Nat) : startL (St.new n) = [] := by
  unfold startL
  rw [openT_new]
  rfl

theorem new_opn (n : Nat) (h1 : 1 ≤ n) (now : Int) (hg : goodT now = true) : opnE (St.new n) now = 0 := by
  have hm := goodT_boot.1 hg
  unfold opnE
  rw [start_new, openT_new]
  have hf := frameE_bytes hm
  have hl := bytesE_len hm
  have hfit : (⟨0, 0, []⟩ : Sd).fit (bytesE (bootE now)) = ⟨0, 0, []⟩ := by
    unfold Sd.fit
    rw [if_neg (by show ¬ 64 < 0 + _; omega)]
  have hE : appE (St.new n) ⟨0, 0, []⟩ (bytesE (bootE now)) = 0 := by
    unfold appE
    rw [if_neg (by simp [hf]), hfit, if_neg (by show ¬ n ≤ 0; omega)]
    rfl
  have hS : (appS (St.new n) ⟨0, 0, []⟩ (bytesE (bootE now))).out = 0 := by
    have := outs_app (St.new n) ⟨0, 0, []⟩ (bytesE (bootE now))
    exact out_nil this
  have hmore : moreE [] now = [bootE now] := rfl
  rw [hmore]
  unfold wrtE
  have hlay : layE (St.new n) ⟨0, 0, []⟩ [bootE now] = 0 := by
    unfold layE
    rw [if_neg (by simpa using hE)]
    rfl
  rw [if_neg (by simpa using hlay)]
  unfold layS
  rw [if_neg (by simpa using hE)]
  show errC (appS (St.new n) ⟨0, 0, []⟩ (bytesE (bootE now))).out = 0
  rw [hS]
  rfl

/-- A new book. -/
def newB (n : Nat) (now : Int) : Bm := opnB (St.new n) now

theorem newB_ok (n : Nat) (h1 : 1 ≤ n) (h2 : n ≤ 4096) (now : Int) (hg : goodT now = true) : (newB n now).Ok 2 ∧ (newB n now).s.n = n ∧ (newB n now).t.recs.length ≤ 1 ∧ (newB n now).s.outs.length = 0 ∧ (newB n now).L = [bootE now] := by
  have hgt : 0 ≤ now ∧ now ≤ 1099511627776 := of_decide_eq_true hg
  obtain ⟨k1, k2, k3, k4⟩ := opn_ok (St.ok_new h1 h2) (q := 0) (Nat.le_refl _) (Nat.le_refl _) hgt.1 hgt.2
  have hm : moreE (startL (St.new n)) now = [bootE now] := by rw [start_new]; rfl
  rw [hm] at k1 k3
  rw [openT_new] at k3
  refine ⟨k1.mono (by simp), k2, by show (opnB (St.new n) now).t.recs.length ≤ 1; simpa using k3, by have : (St.new n).outs.length = 0 := rfl; unfold newB; omega, ?_⟩
  show startL (St.new n) ++ moreE (startL (St.new n)) now = _
  rw [hm, start_new]
  rfl

set_option maxHeartbeats 1000000 in
theorem fresh_ok11 (w : World) (tag : Nat → Nat) (base o : Nat) (ho : 1 ≤ o) (hbase : base ≤ w.heap.size) (n : Nat) (N : Int) (hN : N = n) (h1 : 1 ≤ n) (h2 : n ≤ 4096) (now : Int) (hg : goodT now = true) :
    Calls Tryz.prog 22 #[.int .i64 N, .int .i64 now] w fun e w' => ∃ D B tag', e = .returned (.tuple #[.pointer (some ⟨D, 0, none⟩), .pointer (some ⟨B, 0, none⟩)]) ∧ BK w' tag' base o D B (newB n now) ∧ (∀ k, k < w.heap.size → tag' k = tag k) ∧ Below base w w' := by
  subst hN
  have HN := new_ok w tag base o n hbase h1 h2
  have HE : Hid (opnE (St.new n) now = 0) := new_opn n h1 now hg
  go_enter Tryz.func22, Tryz.ntmps22
  go_wp2_with fail
  refine HN.mono ?_
  rintro e w1 ⟨p, tag1, rfl, hP, hT, hB⟩
  have HO := bopen_ok w1 tag1 base o ho (St.new n) p hP (Nat.le_trans hbase hB.size) now hg (by simp [St.new]) (by simp [St.new]) (by simp [St.new]) (by rw [start_new]; simp)
  rw [HE.out] at HO
  have HT : Hid (∀ k, k < w.heap.size → tag1 k = tag k) := hT
  have HB : Hid (Below w.heap.size w w1) := hB
  clear hP hT hB HN
  go_wp2_with fail
  refine HO.mono ?_
  rintro e w2 ⟨tag2, hS, B, hBK, rfl⟩
  rw [opn_wr _ _ HE.out] at hBK
  have HS : Hid (StepR tag1 tag2 base o (o + 2) w1 w2) := hS
  have HK : Hid (BK w2 tag2 base o p.D B (newB n now)) := hBK
  clear hS hBK HO
  have hv : bookV 0 B = .pointer (some ⟨B, 0, none⟩) := rfl
  rw [hv]
  go_wp2
  go_ret2
  exact ⟨p.D, B, tag2, rfl, HK.out, fun k hk => (HS.out.tags k (Nat.lt_of_lt_of_le hk HB.out.size)).trans (HT.out k hk), (HB.out.mono hbase).trans HS.out.below⟩

/-- awake's book, step by step. -/
def aw0 : Bm := newB 4 5
def aw1 : Bm := aw0.put ⟨2, 6, 7, 9, 0⟩
def aw2 : Bm := aw1.put ⟨3, 9, 0, 9, 0⟩

theorem aw_e1 : aw0.putE ⟨2, 6, 7, 9, 0⟩ = 0 := by kernel_rfl
theorem aw_e2 : aw1.putE ⟨3, 9, 0, 9, 0⟩ = 0 := by kernel_rfl
theorem aw_L : aw2.L = [⟨1, 5, 0, 0, 0⟩, ⟨2, 6, 7, 9, 0⟩, ⟨3, 9, 0, 9, 0⟩] := by kernel_rfl
theorem aw_S : spans [⟨1, 5, 0, 0, 0⟩, ⟨2, 6, 7, 9, 0⟩, ⟨3, 9, 0, 9, 0⟩] = [⟨7, 9, 0, 6, 9, false⟩] := by rfl

theorem en_ok (k t s a b : Int) (h1 : -9223372036854775808 ≤ k ∧ k ≤ 9223372036854775807) (h2 : -9223372036854775808 ≤ t ∧ t ≤ 9223372036854775807) (h3 : 0 ≤ s ∧ s < 4294967296) (h4 : 0 ≤ a ∧ a < 4294967296) (h5 : -9223372036854775808 ≤ b ∧ b ≤ 9223372036854775807) : En.Ok ⟨k, t, s, a, b⟩ :=
  ⟨h1.1, h1.2, h2.1, h2.2, h3.1, h3.2, h4.1, h4.2, h5.1, h5.2⟩

set_option maxHeartbeats 4000000 in
theorem awake11_ok (w : World) : Calls Tryz.prog 5 #[] w fun e w' => e = .returned (.bool true) ∧ Below w.heap.size w w' := by
  have HF := fresh_ok11 w (fun _ => 0) w.heap.size 1 (by omega) (Nat.le_refl _) 4 4 rfl (by omega) (by omega) 5 rfl
  obtain ⟨n1, n2, n3, n4, n5⟩ := newB_ok 4 (by omega) (by omega) 5 rfl
  have hok1 : En.Ok ⟨2, 6, 7, 9, 0⟩ := en_ok 2 6 7 9 0 (by omega) (by omega) (by omega) (by omega) (by omega)
  have hok2 : En.Ok ⟨3, 9, 0, 9, 0⟩ := en_ok 3 9 0 9 0 (by omega) (by omega) (by omega) (by omega) (by omega)
  obtain ⟨o1, g1⟩ := n1.put hok1
  obtain ⟨o2, g2⟩ := o1.put hok2
  have l1 : aw0.L.length = 1 := by unfold aw0; rw [n5]; rfl
  have HB := fun w' tag' D B h hb => bgrant_ok w' tag' w.heap.size 1 D B (by omega) aw0 h hb 6 7 9 0 hok1 2 n1 (by omega) (by show (newB 4 5).s.outs.length ≤ _; omega) (by show (newB 4 5).t.recs.length ≤ _; omega) (by omega)
  have HR := fun w' tag' D B h hb => brelease_ok w' tag' w.heap.size 1 D B (by omega) aw1 h hb 9 9 0 hok2 6 o1 (by omega) (by have := g1.outs; show aw1.s.outs.length ≤ _; have h0 : (newB 4 5).s.outs.length = 0 := n4; exact Nat.le_trans this (by omega)) (by have := g1.recs; exact Nat.le_trans this (by omega)) (by have := g1.L; exact Nat.le_trans this (by show aw0.L.length + 2 ≤ _; omega))
  have HSp := fun w' tag' D B h => bspans_ok w' tag' w.heap.size 1 D B aw2 h o2.fL (by rw [aw_L]; decide)
  have HEn := fun w' tag' D B h => bentries_ok w' tag' w.heap.size 1 D B aw2 h (by rw [aw_L]; decide)
  rw [aw_e1] at HB
  rw [aw_e2] at HR
  rw [aw_L, aw_S] at HSp
  rw [aw_L] at HEn
  clear n1 n2 n3 n4 n5 o1 g1 o2 g2 hok1 hok2
  have HB : Hid (∀ w' tag' D B, _) := HB
  have HR : Hid (∀ w' tag' D B, _) := HR
  have HSp : Hid (∀ w' tag' D B, _) := HSp
  have HEn : Hid (∀ w' tag' D B, _) := HEn
  go_enter Tryz.func5, Tryz.ntmps5
  go_wp2_with fail
  refine HF.mono ?_
  rintro e w1 ⟨D, B, tag1, rfl, hK1, _, hB1⟩
  have h1 := HB.out w1 tag1 D B hK1 hB1.size
  clear hK1 HF
  go_wp2_with fail
  refine h1.mono ?_
  rintro e w2 ⟨rfl, tag2, hS2, hK2⟩
  have hB2 := hB1.trans hS2.below
  have h2 := HR.out w2 tag2 D B hK2 hB2.size
  clear hK2 hS2 h1
  go_wp2_with fail
  refine h2.mono ?_
  rintro e w3 ⟨rfl, tag3, hS3, hK3⟩
  have hB3 := hB2.trans hS3.below
  have h3 := HSp.out w3 tag3 D B hK3
  have HK3 : Hid (BK w3 tag3 w.heap.size 1 D B aw2) := hK3
  clear hK3 hS3 h2
  go_wp2_with fail
  refine h3.mono ?_
  rintro e w4 ⟨v4, rfl, hR4, hB4⟩
  obtain ⟨ga, gc, rfl, _, hgc2⟩ := ownsRow_slice hR4 (by decide)
  have hs0 := spRow_at hR4 rfl (i := 0) rfl
  obtain ⟨q0, q1, q2, q3, q4, q5⟩ := hs0
  have hB04 := hB3.trans (hB4.mono hB3.size)
  have h4 := HEn.out w4 tag3 D B (by obtain ⟨p', q', kv, dv, k0, k1, k2, k3⟩ := HK3.out; exact ⟨p', q', kv, dv, k0, k1.later hB4, k2.later hB4, k3.later hB4⟩)
  have hl1 : ([⟨7, 9, 0, 6, 9, false⟩] : List Sp).length = 1 := rfl
  rw [hl1] at *
  simp only at q0 q3 q4
  clear hR4 h3 q1 q2 q5
  go_wp2_with fail
  refine h4.mono ?_
  rintro e w5 ⟨v5, rfl, hW5, hB5, _⟩
  have hB05 := hB04.trans (hB5.mono hB04.size)
  have hl3 : ([⟨1, 5, 0, 0, 0⟩, ⟨2, 6, 7, 9, 0⟩, ⟨3, 9, 0, 9, 0⟩] : List En).length = 3 := rfl
  rw [hl3] at hW5
  obtain ⟨a5, c5, rfl, _⟩ := win_form hW5
  clear hW5 h4 hl3
  go_wp2
  go_ret
  exact ⟨rfl, hB05⟩

end Go.Proofs.YtafkkehcacdodaaGreat
