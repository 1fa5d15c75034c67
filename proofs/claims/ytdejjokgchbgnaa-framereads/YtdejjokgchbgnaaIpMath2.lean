/- Plain mathematics: what was read is built again; a bit that is turned is found. -/
import Derived.Test.YtdejjokgchbgnaaIpMath
set_option maxRecDepth 100000
namespace Go.Proofs.Ytdejjokgchbgnaa

theorem cons_of_len (l : List Int) (n : Nat) (h : n + 1 ≤ l.length) : ∃ a t, l = a :: t ∧ n ≤ t.length := by
  cases l with
  | nil => simp at h
  | cons a t => exact ⟨a, t, rfl, by simpa using h⟩

theorem flags_back (F : Int) (h0 : 0 ≤ F) (h1 : F < 32768) : flagI (bit F 16384) 16384 + flagI (bit F 8192) 8192 + F % 8192 = F := by
  unfold flagI bit
  simp only [decide_eq_true_eq]
  split <;> split <;> omega

theorem dg_ok (l : List Int) (hb : isBytes l) : (dgOf l).Ok := by
  have q : ∀ k, 0 ≤ l.getD k 0 ∧ l.getD k 0 < 256 := fun k => getD_byte l hb k
  constructor
  · show 0 ≤ ((l.getD 12 0 * 256 + l.getD 13 0) * 256 + l.getD 14 0) * 256 + l.getD 15 0
    have := q 12; have := q 13; have := q 14; have := q 15
    omega
  · show ((l.getD 12 0 * 256 + l.getD 13 0) * 256 + l.getD 14 0) * 256 + l.getD 15 0 < _
    have := q 12; have := q 13; have := q 14; have := q 15
    omega
  · show 0 ≤ ((l.getD 16 0 * 256 + l.getD 17 0) * 256 + l.getD 18 0) * 256 + l.getD 19 0
    have := q 16; have := q 17; have := q 18; have := q 19
    omega
  · show ((l.getD 16 0 * 256 + l.getD 17 0) * 256 + l.getD 18 0) * 256 + l.getD 19 0 < _
    have := q 16; have := q 17; have := q 18; have := q 19
    omega
  · exact isBytes_part l hb _ _
  · exact isBytes_part l hb _ _

theorem dg_total (l : List Int) (g : Good l) : totalI (dgOf l) = w2 l 2 ∧ ((dgOf l).opts.length : Int) = hdOf l - 20 := by
  obtain ⟨g1, g2, g3, g4, g5, g6, g7, g8, g9⟩ := g
  have e1 : (dgOf l).opts.length = (hdOf l).toNat - 20 := by show ((l.drop 20).take _).length = _; simp; omega
  have e2 : (dgOf l).body.length = (w2 l 2).toNat - (hdOf l).toNat := by show ((l.drop _).take _).length = _; simp; omega
  unfold totalI
  omega

theorem dg_fits (l : List Int) (hb : isBytes l) (g : Good l) : Fits (dgOf l) := by
  have ⟨t1, t2⟩ := dg_total l g
  have q : ∀ k, 0 ≤ l.getD k 0 ∧ l.getD k 0 < 256 := fun k => getD_byte l hb k
  have g1 := g.a
  have g8 := g.h
  have g4 := g.d
  have hd : hdOf l = l.getD 0 0 % 16 * 4 := rfl
  constructor
  · show 0 ≤ l.getD 1 0 ∧ l.getD 1 0 ≤ 255; have := q 1; omega
  · show 0 ≤ l.getD 8 0 ∧ l.getD 8 0 ≤ 255; have := q 8; omega
  · show 0 ≤ l.getD 9 0 ∧ l.getD 9 0 ≤ 255; have := q 9; omega
  · show 0 ≤ l.getD 4 0 * 256 + l.getD 5 0 ∧ l.getD 4 0 * 256 + l.getD 5 0 ≤ 65535
    have := q 4; have := q 5
    omega
  · show 0 ≤ w2 l 6 % 8192 ∧ w2 l 6 % 8192 ≤ 8191; omega
  · omega
  · omega
  · omega

theorem head_again (l : List Int) (hb : isBytes l) (g : Good l) : headB (dgOf l) (w2 l 10) = l.take (hdOf l).toNat := by
  have ⟨t1, t2⟩ := dg_total l g
  have f := dg_fits l hb g
  have fb : flagsI (dgOf l) = w2 l 6 := by
    have h1 := getD_byte l hb 6
    have h2 := getD_byte l hb 7
    have hw : w2 l 6 = l.getD 6 0 * 256 + l.getD 7 0 := rfl
    exact flags_back (w2 l 6) (by omega) g.g
  have q : ∀ k, 0 ≤ l.getD k 0 ∧ l.getD k 0 < 256 := fun k => getD_byte l hb k
  obtain ⟨g1, g2, g3, g4, g5, g6, g7, g8, g9⟩ := g
  unfold headB
  rw [t1, t2, fb]
  obtain ⟨k, hk⟩ : ∃ k, (hdOf l).toNat = k + 20 := ⟨(hdOf l).toNat - 20, by omega⟩
  have hopt : (dgOf l).opts = (l.drop 20).take k := by show (l.drop 20).take ((hdOf l).toNat - 20) = _; rw [hk, Nat.add_sub_cancel]
  rw [hopt, hk]
  have hh : hdOf l = b1 l 0 % 16 * 4 := rfl
  have z0 : (64 + (20 + (hdOf l - 20)) / 4) % 256 = l.getD 0 0 := by
    have := q 0
    have e : b1 l 0 = l.getD 0 0 := rfl
    rw [hh, e]
    rw [e] at g3
    omega
  have z1 : (dgOf l).tos % 256 = l.getD 1 0 := by have := q 1; show l.getD 1 0 % 256 = _; omega
  have z2 : w2 l 2 / 256 % 256 = l.getD 2 0 := by have := q 2; have := q 3; show (l.getD 2 0 * 256 + l.getD 3 0) / 256 % 256 = _; omega
  have z3 : w2 l 2 % 256 = l.getD 3 0 := by have := q 2; have := q 3; show (l.getD 2 0 * 256 + l.getD 3 0) % 256 = _; omega
  have z4 : (dgOf l).id / 256 % 256 = l.getD 4 0 := by have := q 4; have := q 5; show (l.getD 4 0 * 256 + l.getD 5 0) / 256 % 256 = _; omega
  have z5 : (dgOf l).id % 256 = l.getD 5 0 := by have := q 4; have := q 5; show (l.getD 4 0 * 256 + l.getD 5 0) % 256 = _; omega
  have z6 : w2 l 6 / 256 % 256 = l.getD 6 0 := by have := q 6; have := q 7; show (l.getD 6 0 * 256 + l.getD 7 0) / 256 % 256 = _; omega
  have z7 : w2 l 6 % 256 = l.getD 7 0 := by have := q 6; have := q 7; show (l.getD 6 0 * 256 + l.getD 7 0) % 256 = _; omega
  have z8 : (dgOf l).ttl % 256 = l.getD 8 0 := by have := q 8; show l.getD 8 0 % 256 = _; omega
  have z9 : (dgOf l).proto % 256 = l.getD 9 0 := by have := q 9; show l.getD 9 0 % 256 = _; omega
  have z10 : w2 l 10 / 256 % 256 = l.getD 10 0 := by have := q 10; have := q 11; show (l.getD 10 0 * 256 + l.getD 11 0) / 256 % 256 = _; omega
  have z11 : w2 l 10 % 256 = l.getD 11 0 := by have := q 10; have := q 11; show (l.getD 10 0 * 256 + l.getD 11 0) % 256 = _; omega
  have s0 := q 12
  have s1 := q 13
  have s2 := q 14
  have s3 := q 15
  have z12 : (dgOf l).src / 256 / 256 / 256 % 256 = l.getD 12 0 := by show (((l.getD 12 0 * 256 + l.getD 13 0) * 256 + l.getD 14 0) * 256 + l.getD 15 0) / 256 / 256 / 256 % 256 = _; omega
  have z13 : (dgOf l).src / 256 / 256 % 256 = l.getD 13 0 := by show (((l.getD 12 0 * 256 + l.getD 13 0) * 256 + l.getD 14 0) * 256 + l.getD 15 0) / 256 / 256 % 256 = _; omega
  have z14 : (dgOf l).src / 256 % 256 = l.getD 14 0 := by show (((l.getD 12 0 * 256 + l.getD 13 0) * 256 + l.getD 14 0) * 256 + l.getD 15 0) / 256 % 256 = _; omega
  have z15 : (dgOf l).src % 256 = l.getD 15 0 := by show (((l.getD 12 0 * 256 + l.getD 13 0) * 256 + l.getD 14 0) * 256 + l.getD 15 0) % 256 = _; omega
  have d0 := q 16
  have d1 := q 17
  have d2 := q 18
  have d3 := q 19
  have z16 : (dgOf l).dst / 256 / 256 / 256 % 256 = l.getD 16 0 := by show (((l.getD 16 0 * 256 + l.getD 17 0) * 256 + l.getD 18 0) * 256 + l.getD 19 0) / 256 / 256 / 256 % 256 = _; omega
  have z17 : (dgOf l).dst / 256 / 256 % 256 = l.getD 17 0 := by show (((l.getD 16 0 * 256 + l.getD 17 0) * 256 + l.getD 18 0) * 256 + l.getD 19 0) / 256 / 256 % 256 = _; omega
  have z18 : (dgOf l).dst / 256 % 256 = l.getD 18 0 := by show (((l.getD 16 0 * 256 + l.getD 17 0) * 256 + l.getD 18 0) * 256 + l.getD 19 0) / 256 % 256 = _; omega
  have z19 : (dgOf l).dst % 256 = l.getD 19 0 := by show (((l.getD 16 0 * 256 + l.getD 17 0) * 256 + l.getD 18 0) * 256 + l.getD 19 0) % 256 = _; omega
  rw [z0, z1, z2, z3, z4, z5, z6, z7, z8, z9, z10, z11, z12, z13, z14, z15, z16, z17, z18, z19]
  clear z0 z1 z2 z3 z4 z5 z6 z7 z8 z9 z10 z11 z12 z13 z14 z15 z16 z17 z18 z19 q t1 t2 f fb hopt hh g3 g4 g5 g6 g7 g8 g9 g1 hk hb s0 s1 s2 s3 d0 d1 d2 d3
  obtain ⟨a0, r0, rfl, p0⟩ := cons_of_len l 19 g2
  obtain ⟨a1, r1, rfl, p1⟩ := cons_of_len r0 18 p0
  obtain ⟨a2, r2, rfl, p2⟩ := cons_of_len r1 17 p1
  obtain ⟨a3, r3, rfl, p3⟩ := cons_of_len r2 16 p2
  obtain ⟨a4, r4, rfl, p4⟩ := cons_of_len r3 15 p3
  obtain ⟨a5, r5, rfl, p5⟩ := cons_of_len r4 14 p4
  obtain ⟨a6, r6, rfl, p6⟩ := cons_of_len r5 13 p5
  obtain ⟨a7, r7, rfl, p7⟩ := cons_of_len r6 12 p6
  obtain ⟨a8, r8, rfl, p8⟩ := cons_of_len r7 11 p7
  obtain ⟨a9, r9, rfl, p9⟩ := cons_of_len r8 10 p8
  obtain ⟨a10, r10, rfl, p10⟩ := cons_of_len r9 9 p9
  obtain ⟨a11, r11, rfl, p11⟩ := cons_of_len r10 8 p10
  obtain ⟨a12, r12, rfl, p12⟩ := cons_of_len r11 7 p11
  obtain ⟨a13, r13, rfl, p13⟩ := cons_of_len r12 6 p12
  obtain ⟨a14, r14, rfl, p14⟩ := cons_of_len r13 5 p13
  obtain ⟨a15, r15, rfl, p15⟩ := cons_of_len r14 4 p14
  obtain ⟨a16, r16, rfl, p16⟩ := cons_of_len r15 3 p15
  obtain ⟨a17, r17, rfl, p17⟩ := cons_of_len r16 2 p16
  obtain ⟨a18, r18, rfl, p18⟩ := cons_of_len r17 1 p17
  obtain ⟨a19, r19, rfl, p19⟩ := cons_of_len r18 0 p18
  rfl

/-- What IpAgain makes of the bytes: a check of 65535 is 0. -/
def fixL (m : List Int) : List Int := if m.getD 10 0 = 255 ∧ m.getD 11 0 = 255 then (m.set 10 0).set 11 0 else m

theorem head_zero (p : Dg) (c : Int) : headB p 0 = ((headB p c).set 10 0).set 11 0 := rfl

theorem built_again (l : List Int) (hb : isBytes l) (g : Good l) : built (dgOf l) = fixL (l.take (w2 l 2).toNat) := by
  have hh := head_again l hb g
  have k := dg_ok l hb
  have f := dg_fits l hb g
  have hw : w2 l 10 = l.getD 10 0 * 256 + l.getD 11 0 := rfl
  have q10 := getD_byte l hb 10
  have q11 := getD_byte l hb 11
  have hs := ws_head (dgOf l) (w2 l 10) (by omega) (by omega)
  have hpos := ws_head_pos (dgOf l) k.opts f.o40
  obtain ⟨g1, g2, g3, g4, g5, g6, g7, g8, g9⟩ := g
  rw [← hh, hs] at g9
  have hT : l.take (w2 l 2).toNat = l.take (hdOf l).toNat ++ (dgOf l).body := by
    show _ = _ ++ (l.drop (hdOf l).toNat).take ((w2 l 2).toNat - (hdOf l).toNat)
    rw [← List.take_add]
    congr 1
    omega
  have e10 : (l.take (w2 l 2).toNat).getD 10 0 = l.getD 10 0 := by
    have : 10 < (w2 l 2).toNat := by omega
    simp [List.getD, this]
  have e11 : (l.take (w2 l 2).toNat).getD 11 0 = l.getD 11 0 := by
    have : 11 < (w2 l 2).toNat := by omega
    simp [List.getD, this]
  unfold fixL
  rw [e10, e11]
  unfold built
  have hck : checkI (dgOf l) = 65535 - fold16 (ws (headB (dgOf l) 0)) := by unfold checkI; rw [turn_fold]
  by_cases hff : l.getD 10 0 = 255 ∧ l.getD 11 0 = 255
  · rw [if_pos hff, hT, ← hh]
    have h0 : checkI (dgOf l) = 0 := by
      rw [hck]
      unfold fold16 at g9 ⊢
      split at g9 <;> split <;> omega
    rw [h0, head_zero (dgOf l) (w2 l 10)]
    have hlen := head_length (dgOf l) (w2 l 10)
    rw [List.set_append_left _ _ (by rw [hlen]; omega), List.set_append_left _ _ (by rw [List.length_set, hlen]; omega)]
  · rw [if_neg hff, hT, ← hh]
    have h0 : checkI (dgOf l) = w2 l 10 := by
      rw [hck]
      unfold fold16 at g9 ⊢
      split at g9 <;> split <;> omega
    rw [h0]

/-- One byte of the header that is another is found. -/
theorem turned_bad (p : Dg) (k : p.Ok) (f : Fits p) (i : Nat) (y : Int) (hi : i < 20 + p.opts.length) (hy0 : 0 ≤ y) (hy1 : y < 256) (hne : y ≠ (built p).getD i 0) (h0 : i = 0 → y / 16 ≠ 4) : ¬ parseE ((built p).set i y) = 0 := by
  intro hp
  have g := good_of _ hp
  have hlen : (headB p (checkI p)).length = 20 + p.opts.length := head_length _ _
  have hgd : (built p).getD i 0 = (headB p (checkI p)).getD i 0 := by
    unfold built
    simp [List.getD, List.getElem?_append_left (show i < (headB p (checkI p)).length by omega)]
  have hb := built_bytes p k
  have hz := getD_byte (built p) hb i
  have h1 := headLen p (checkI p) p.body f
  have hse : (built p).set i y = (headB p (checkI p)).set i y ++ p.body := by unfold built; rw [List.set_append_left _ _ (by omega)]
  rcases Nat.eq_zero_or_pos i with rfl | hpos
  · have e : b1 ((built p).set 0 y) 0 = y := rfl
    have := g.c
    rw [e] at this
    exact h0 rfl this
  · obtain ⟨j, rfl⟩ : ∃ j, i = j + 1 := ⟨i - 1, by omega⟩
    have e : hdOf ((built p).set (j + 1) y) = hdOf (built p) := rfl
    have e2 : hdOf (built p) = 20 + p.opts.length := h1
    have g9 := g.i
    rw [e, e2, hse, show (20 + (p.opts.length : Int)).toNat = ((headB p (checkI p)).set (j + 1) y).length by rw [List.length_set, hlen]; omega, List.take_left] at g9
    have hs := wsAux_set 0 (headB p (checkI p)) (j + 1) y (by omega)
    have hsum := sum_head p k.opts f.o40
    have hp0 := ws_head_pos p k.opts f.o40
    have hc := check_bd p
    have hw := ws_head p (checkI p) hc.1 hc.2
    rw [hgd] at hne hz
    unfold ws at *
    rw [hs] at g9
    generalize wsAux 0 (headB p (checkI p)) = S at *
    generalize (headB p (checkI p)).getD (j + 1) 0 = z at *
    unfold fold16 at g9 hsum
    split at g9 <;> split at g9 <;> split at hsum <;> omega
end Go.Proofs.Ytdejjokgchbgnaa
