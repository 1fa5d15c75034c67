/- The contract of BuildWord, the document's own answer. -/
import Derived.Test.YtejknbkleinjbaaIcmpBuild
namespace Go.Proofs.Ytejknbkleinjbaa
open Go.RowKit

theorem wrbuild_type (m : Wd) (a : Option Addr) (c : Nat) (w : World) (h : ¬ inB m.type 255) :
    Calls Try.prog 15 #[wdV m (.slice a m.data.length c)] w fun e w' => e = .returned (.tuple #[.slice none 0 0, .int .i64 1]) ∧ Below w.heap.size w w' := by
  have g0 : inBb m.type 255 = false := decide_eq_false h
  go_enter Try.func15, Try.ntmps15
  go_wp2_with (first | (go_at_call 29; refine (rin_any _ _ _).mono ?_; rintro e w' ⟨rfl, rfl⟩))
  go_ret2
  exact ⟨rfl, below_alloc _ _⟩

theorem wrbuild_code (m : Wd) (a : Option Addr) (c : Nat) (w : World) (h0 : inB m.type 255) (h : ¬ inB m.code 255) :
    Calls Try.prog 15 #[wdV m (.slice a m.data.length c)] w fun e w' => e = .returned (.tuple #[.slice none 0 0, .int .i64 1]) ∧ Below w.heap.size w w' := by
  have g0 : inBb m.type 255 = true := decide_eq_true h0
  have g1 : inBb m.code 255 = false := decide_eq_false h
  go_enter Try.func15, Try.ntmps15
  go_wp2_with (first | (go_at_call 29; refine (rin_any _ _ _).mono ?_; rintro e w' ⟨rfl, rfl⟩))
  go_ret2
  exact ⟨rfl, below_alloc _ _⟩

theorem wrbuild_long (m : Wd) (a : Option Addr) (c : Nat) (w : World) (h0 : inB m.type 255) (h1 : inB m.code 255) (h : 2020 < m.data.length) :
    Calls Try.prog 15 #[wdV m (.slice a m.data.length c)] w fun e w' => e = .returned (.tuple #[.slice none 0 0, .int .i64 3]) ∧ Below w.heap.size w w' := by
  have g0 : inBb m.type 255 = true := decide_eq_true h0
  have g1 : inBb m.code 255 = true := decide_eq_true h1
  have g2 : (2020 : Int) < (m.data.length : Int) := by omega
  go_enter Try.func15, Try.ntmps15
  go_wp2_with (first | (go_at_call 29; refine (rin_any _ _ _).mono ?_; rintro e w' ⟨rfl, rfl⟩))
  go_ret2
  exact ⟨rfl, below_alloc _ _⟩

theorem wrbuild_no (m : Wd) (a : Option Addr) (c : Nat) (w : World) (h : ¬ buildW m = 0) :
    Calls Try.prog 15 #[wdV m (.slice a m.data.length c)] w fun e w' => e = .returned (.tuple #[.slice none 0 0, .int .i64 (buildW m)]) ∧ Below w.heap.size w w' := by
  obtain ⟨E, hE⟩ : ∃ E, buildW m = E := ⟨_, rfl⟩
  rw [hE] at h ⊢
  unfold buildW at hE
  by_cases h0 : inB m.type 255
  case neg => rw [if_pos h0] at hE; subst hE; exact wrbuild_type m a c w h0
  rw [if_neg (by simpa using h0)] at hE
  by_cases h1 : inB m.code 255
  case neg => rw [if_pos h1] at hE; subst hE; exact wrbuild_code m a c w h0 h1
  rw [if_neg (by simpa using h1)] at hE
  by_cases h2 : 2020 < m.data.length
  · rw [if_pos h2] at hE; subst hE; exact wrbuild_long m a c w h0 h1 h2
  rw [if_neg h2] at hE
  exact absurd hE.symm h

theorem wset23 (m : Wd) (x : Int) (h0 : 0 ≤ x) (h1 : x ≤ 65535) (l : List Int) : ((headW m 0 ++ l).set 2 (x / 256)).set 3 (x % 256) = headW m x ++ l := by
  have e : x / 256 % 256 = x / 256 := by omega
  simp [headW, e]

theorem owns_lit4 (w : World) (N : Nat) (a b c d : Int) (hN : N = w.heap.size) : Owns (w.alloc (.cells #[.int .u8 a, .int .u8 b, .int .u8 c, .int .u8 d] 5)) N (.slice (some ⟨N, 0, none⟩) 4 4) [a, b, c, d] := by
  subst hN
  exact World.ownsRow_lit w #[.int .u8 a, .int .u8 b, .int .u8 c, .int .u8 d] 4 (Nat.le_refl _) (by decide) rfl

set_option maxRecDepth 100000 in
set_option maxHeartbeats 4000000 in
theorem wrbuild_ok (m : Wd) (a : Option Addr) (c : Nat) (w : World) (k : m.Ok) (f : WFits m) (hD : Bts w (.slice a m.data.length c) m.data) :
    Calls Try.prog 15 #[wdV m (.slice a m.data.length c)] w fun e w' =>
      ∃ v, e = .returned (.tuple #[v, .int .i64 0]) ∧ Bts w' v (builtW m) ∧ Below w.heap.size w w' := by
  have g0 : inBb m.type 255 = true := decide_eq_true f.type
  have g1 : inBb m.code 255 = true := decide_eq_true f.code
  obtain ⟨⟨p0, p1⟩, ⟨q0, q1⟩, hlen⟩ := f
  obtain ⟨r0, r1, -⟩ := k
  have g2 : ¬ (2020 : Int) < (m.data.length : Int) := by omega
  have HBt : Hid (isBytes m.data) := hD.bytes
  obtain ⟨da, dc, db, dof, hde, hd2, hd3, hd4, hd5, hd6⟩ := hD
  simp only [Value.slice.injEq, true_and] at hde
  obtain ⟨rfl, rfl⟩ := hde
  go_enter Try.func15, Try.ntmps15
  go_wp2_with (first | (go_at_call 29; refine (rin_any _ _ _).mono ?_; rintro e w' ⟨rfl, rfl⟩))
  obtain ⟨w0, hw0⟩ : ∃ w0, w0 = w.alloc (.cells (wdC m (.slice a m.data.length c)) 26) := ⟨_, rfl⟩
  rw [← hw0]
  have hsz0 : w0.heap.size = w.heap.size + 1 := by rw [hw0]; simp
  have hbw0 : Below w.heap.size w w0 := by rw [hw0]; exact below_alloc _ _
  have HC : Hid (∀ (w' : World), Below (w.heap.size + 1) w0 w' → ∀ i v, (wdC m (.slice a m.data.length c))[i]? = some v → w'.cell? ⟨w.heap.size, i, none⟩ = some v) := by
    intro w' hb i v hv
    rw [hb.cell (by show w.heap.size < w.heap.size + 1; omega), hw0, World.cell?_alloc_mark w _ _ (0, 0) i]
    exact hv
  clear hw0
  have hLit := owns_lit4 w0 (w.heap.size + 1) m.type m.code 0 0 hsz0.symm
  have hbL : Below (w.heap.size + 1) w0 (w0.alloc (.cells #[.int .u8 m.type, .int .u8 m.code, .int .u8 0, .int .u8 0] 5)) := by rw [← hsz0]; exact below_alloc _ _
  refine (lay_any _ (w.heap.size + 1) _ [m.type, m.code, 0, 0] 4 4 m.rest w0 hLit (by simp; omega) (by simp) rfl (by decide) hbL).mono ?_
  rintro e w4 ⟨v4, rfl, ho4', hb4, hz4⟩
  have HE4 : Hid ([m.type, m.code, 0, 0] ++ bytesOfN 4 m.rest = headW m 0) := by
    show _ = _
    simp only [bytesOfN, headW, List.cons_append, List.nil_append, List.cons.injEq, and_true]
    refine ⟨by omega, by omega, by decide, by decide⟩
  rw [HE4.out] at ho4'
  have ho4 : Owns w4 (w.heap.size + 1) v4 (headW m 0) := ho4'
  clear ho4' HE4 hLit hbL
  go_wp2_with fail
  go_loopw [4, 5] (fun v i wr => ∃ t : Nat, t ≤ m.data.length ∧ i = .int .i64 (t : Int) ∧ Owns wr (w.heap.size + 1) v (headW m 0 ++ m.data.take t) ∧ Below (w.heap.size + 1) w0 wr ∧ w.heap.size + 1 ≤ wr.heap.size) (fun _ i _ => m.data.length - (intOf i).toNat)
  case atStart => exact ⟨0, Nat.zero_le _, rfl, by simpa using ho4, hb4, hz4⟩
  case round =>
    obtain ⟨t, ht, rfl, hown, hbel, hsz⟩ := hrel
    clear ho4 hb4 hz4
    have d3 : wr.cell? ⟨w.heap.size, 3, none⟩ = some (.slice a m.data.length c) := HC.out wr hbel 3 _ rfl
    by_cases hlt : t < m.data.length
    · rcases hd5 with rfl | hnil
      case inr => rw [hnil] at hlt; simp at hlt
      have hbwr : Below w.heap.size w wr := hbw0.trans (hbel.mono (by omega))
      have hcell : wr.cell? ⟨db, dof + t, none⟩ = some (.int .u8 (m.data.getD t 0)) := cell_later hbwr (hd6 t hlt)
      have hts : Hid (headW m 0 ++ m.data.take (t + 1) = (headW m 0 ++ m.data.take t) ++ [m.data.getD t 0]) := by show _ = _; rw [take_snoc m.data t hlt, List.append_assoc]
      obtain ⟨v', w1', hrun, ho, hb⟩ := append_one wr (w.heap.size + 1) _ _ (m.data.getD t 0) hown hsz (by rw [List.length_append, List.length_take, headW_length]; omega)
      have htb : (t : Int) < (m.data.length : Int) := by omega
      have R1 : Owns w1' (w.heap.size + 1) v' (headW m 0 ++ m.data.take (t + 1)) := by rw [hts.out]; exact ho
      have R2 := hbel.trans hb
      have R3 := Nat.le_trans hsz hb.size
      clear hts ho hb
      generalize m.data.getD t 0 = c at *
      go_wp2_with (at_builtin; refine Lib.wpList_append_run_sl _ rfl _ _ 24 rfl _ _ rfl rfl hrun ?_)
      go_roundw
      case rel => exact ⟨t + 1, by omega, by go_num, R1, R2, R3⟩
      case measure => simp [intOf]; omega
    · have hte : t = m.data.length := by omega
      subst hte
      rw [List.take_length] at hown
      have hbytes : isBytes (headW m 0 ++ m.data) := isBytes_append (headW_bytes m 0) HBt.out
      obtain ⟨G, cg, rfl, hH⟩ := holds8_of_owns hown (len := 8 + m.data.length) (by rw [List.length_append, headW_length]) (by omega)
      have hBo := hown.bts hbytes
      clear hown hbytes
      go_wp2_with fail
      refine (wone_any _ _ _ hBo (by rw [List.length_append, headW_length]; omega)).mono ?_
      rintro e w6 ⟨rfl, hb6'⟩
      have hH6 := hH.later hb6'
      have hb6 : Below (w.heap.size + 1) w0 w6 := hbel.trans (hb6'.mono hsz)
      have HFV : Hid (checkW m = 65535 - fold16 (ws (headW m 0 ++ m.data))) := by
        show _ = _
        unfold checkW
        rw [turn_fold]
        rfl
      have hS := fold16_bd (ws (headW m 0 ++ m.data))
      generalize fold16 (ws (headW m 0 ++ m.data)) = S at *
      clear hBo hH hb6' d3 hbel
      have hG := hH6.base
      have c2 := hH6.cell 2 (by omega)
      have c3 := hH6.cell 3 (by omega)
      have f2 := hH6.2.frozenAt 2
      have f3 := hH6.2.frozenAt 3
      have i2 : (2 : Int) < 8 + (m.data.length : Int) := by omega
      have i3 : (3 : Int) < 8 + (m.data.length : Int) := by omega
      obtain ⟨S0, S1⟩ := hS
      have hC0 : 0 ≤ 65535 - S := by omega
      have hHf := (hH6.store 2 ((65535 - S) / 256)).store 3 ((65535 - S) % 256)
      have hbf : Below (w.heap.size + 1) w0 ((w6.setCell ⟨G, 2, none⟩ (.int .u8 ((65535 - S) / 256))).setCell ⟨G, 3, none⟩ (.int .u8 ((65535 - S) % 256))) := (hb6.setCell (by exact hG) _).setCell (by exact hG) _
      have hBf : Bts ((w6.setCell ⟨G, 2, none⟩ (.int .u8 ((65535 - S) / 256))).setCell ⟨G, 3, none⟩ (.int .u8 ((65535 - S) % 256))) (.slice (some ⟨G, 0, none⟩) (8 + m.data.length) cg) (builtW m) := by
        rw [wset23 m (65535 - S) hC0 (by omega) m.data] at hHf
        unfold builtW
        rw [HFV.out]
        exact hHf.owns.bts (isBytes_append (headW_bytes m _) HBt.out)
      clear hH6 hHf
      go_wp2
      go_ret2
      exact ⟨_, rfl, hBf, hbw0.trans (hbf.mono (by omega))⟩
end Go.Proofs.Ytejknbkleinjbaa
