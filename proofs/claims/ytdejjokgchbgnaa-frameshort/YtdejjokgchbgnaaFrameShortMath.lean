/- Plain mathematics: the first bytes of a frame that is read quote its ends. No program in sight. -/
import Derived.Test.YtdejjokgchbgnaaFrameMath
set_option maxRecDepth 100000
namespace Go.Proofs.Ytdejjokgchbgnaa
open Go.RowKit

theorem take_getD (l : List Int) (m k : Nat) (h : k < m) : (l.take m).getD k 0 = l.getD k 0 := by simp [List.getD, h]

theorem take_b1 (l : List Int) (m k : Nat) (h : k < m) : b1 (l.take m) k = b1 l k := by unfold b1; rw [take_getD l m k h]

theorem take_w2 (l : List Int) (m k : Nat) (h : k + 1 < m) : w2 (l.take m) k = w2 l k := by unfold w2; rw [take_getD l m k (by omega), take_getD l m (k + 1) h]

theorem take_w4 (l : List Int) (m k : Nat) (h : k + 3 < m) : w4 (l.take m) k = w4 l k := by unfold w4; rw [take_getD l m k (by omega), take_getD l m (k + 1) (by omega), take_getD l m (k + 2) (by omega), take_getD l m (k + 3) h]

theorem part_b1 (l : List Int) (h n k : Nat) (hk : k < n) : b1 ((l.drop h).take n) k = b1 l (h + k) := by rw [take_b1 _ _ _ hk, drop_b1]

theorem part_w2 (l : List Int) (h n k : Nat) (hk : k + 1 < n) : w2 ((l.drop h).take n) k = w2 l (h + k) := by rw [take_w2 _ _ _ hk, drop_w2]

theorem body_eq (l : List Int) (h : Nat) (hh : hdOf l = (h : Int)) : (dgOf l).body = (l.drop h).take ((w2 l 2).toNat - h) := by
  show (l.drop (hdOf l).toNat).take ((w2 l 2).toNat - (hdOf l).toNat) = _
  rw [hh, Int.toNat_natCast]

theorem opts_len (l : List Int) (h : Nat) (hh : hdOf l = (h : Int)) (g : Good l) : (dgOf l).opts.length = h - 20 := by
  show ((l.drop 20).take ((hdOf l).toNat - 20)).length = _
  have := g.e
  rw [hh] at this
  rw [hh, Int.toNat_natCast, List.length_take, List.length_drop]
  omega

/-- What is known of a frame that is read and no fault. -/
structure Shown (l : List Int) (h : Nat) : Prop where
  hd : hdOf l = (h : Int)
  h20 : 20 ≤ h
  good : Good l
  off : w2 l 6 % 8192 = 0
  len : h + 8 ≤ l.length
  ports : (b1 l 9 = 17 ∨ b1 l 9 = 6) ∧ (readR l).fp = w2 l h ∧ (readR l).tp = w2 l (h + 2) ∨ b1 l 9 = 1 ∧ ((b1 l h = 8 ∨ b1 l h = 0) ∧ b1 l (h + 1) = 0) ∧ (readR l).fp = w2 l (h + 4) ∧ (readR l).tp = w2 l (h + 4)
  proto : protoK (readR l).kind = b1 l 9

theorem kind_cases (t c : Int) (h0 : ¬ kindW t c = 0) (h5 : ¬ kindW t c = 5) : (t = 8 ∨ t = 0) ∧ c = 0 ∧ protoK (kindW t c) = 1 := by
  unfold kindW at *
  split at h0
  · rename_i q; rw [if_pos q]; exact ⟨.inl q.1, q.2, rfl⟩
  · rename_i q
    rw [if_neg q] at h5 ⊢
    split at h0
    · rename_i r; rw [if_pos r]; exact ⟨.inr r.1, r.2, rfl⟩
    · rename_i r
      rw [if_neg r] at h5
      split at h0
      · rename_i s; rw [if_pos s] at h5; exact absurd rfl h5
      · exact absurd rfl h0

theorem shown_of (l : List Int) (hy : (readR l).why = 0) (hk : ¬ (readR l).kind = 5) : ∃ h, Shown l h := by
  obtain ⟨hE, hp, hr⟩ := readR_ok l hy
  have g := good_of l hE
  have gd := g.d
  have gf := g.f
  have gh := g.h
  obtain ⟨h, hh⟩ : ∃ h : Nat, hdOf l = (h : Int) := ⟨(hdOf l).toNat, by omega⟩
  rw [hh] at gd gf
  have hoff : w2 l 6 % 8192 = 0 := by
    unfold partB at hp
    simp at hp
    exact hp.2
  have hb := body_eq l h hh
  have hbl : (dgOf l).body.length = (w2 l 2).toNat - h := by
    rw [hb, List.length_take, List.length_drop]
    omega
  have hpr : (dgOf l).proto = b1 l 9 := rfl
  rw [hr] at hy hk
  suffices key : h + 8 ≤ l.length ∧ ((b1 l 9 = 17 ∨ b1 l 9 = 6) ∧ (rsOf (dgOf l)).fp = w2 l h ∧ (rsOf (dgOf l)).tp = w2 l (h + 2) ∨ b1 l 9 = 1 ∧ ((b1 l h = 8 ∨ b1 l h = 0) ∧ b1 l (h + 1) = 0) ∧ (rsOf (dgOf l)).fp = w2 l (h + 4) ∧ (rsOf (dgOf l)).tp = w2 l (h + 4)) ∧ protoK (rsOf (dgOf l)).kind = b1 l 9 by
    obtain ⟨q1, q2, q3⟩ := key
    exact ⟨h, hh, by omega, g, hoff, q1, by rw [hr]; exact q2, by rw [hr]; exact q3⟩
  unfold rsOf at hy hk ⊢
  by_cases h17 : (dgOf l).proto = 17
  · rw [if_pos h17] at hy hk ⊢
    unfold rsU at hy hk ⊢
    by_cases hu : parseU (dgOf l).src (dgOf l).dst (dgOf l).body = 0
    · rw [if_pos hu]
      have := (ugood_of _ _ _ hu).a
      refine ⟨by omega, ?_, ?_⟩
      · left; rw [hb, part_w2 l h _ 0 (by omega), part_w2 l h _ 2 (by omega)]; exact ⟨.inl h17, rfl, rfl⟩
      · rw [← hpr, h17]; rfl
    · rw [if_neg hu] at hy; exact absurd hy (whyI_pos _)
  rw [if_neg h17] at hy hk ⊢
  by_cases h6 : (dgOf l).proto = 6
  · rw [if_pos h6] at hy hk ⊢
    unfold rsT at hy hk ⊢
    by_cases hu : parseT (dgOf l).src (dgOf l).dst (dgOf l).body = 0
    · rw [if_pos hu]
      have := (tgood_of _ _ _ hu).a
      refine ⟨by omega, ?_, ?_⟩
      · left; rw [hb, part_w2 l h _ 0 (by omega), part_w2 l h _ 2 (by omega)]; exact ⟨.inr h6, rfl, rfl⟩
      · rw [← hpr, h6]; rfl
    · rw [if_neg hu] at hy; exact absurd hy (whyI_pos _)
  rw [if_neg h6] at hy hk ⊢
  by_cases h1 : (dgOf l).proto = 1
  · rw [if_pos h1] at hy hk ⊢
    unfold rsW at hy hk ⊢
    by_cases hu : parseW (dgOf l).body = 0
    · rw [if_pos hu] at hy hk ⊢
      have ha := (wgood_of _ hu).a
      unfold rsK at hy hk ⊢
      by_cases k0 : kindW (b1 (dgOf l).body 0) (b1 (dgOf l).body 1) = 0
      · rw [if_pos k0] at hy; exact absurd hy (by decide)
      rw [if_neg k0] at hy hk ⊢
      by_cases k5 : kindW (b1 (dgOf l).body 0) (b1 (dgOf l).body 1) = 5
      · rw [if_pos k5] at hy hk
        unfold rsF at hy hk
        split at hk
        · exact absurd rfl hk
        · rename_i q; rw [q] at hy; exact absurd hy (by decide)
      · rw [if_neg k5]
        obtain ⟨t1, t2, t3⟩ := kind_cases _ _ k0 k5
        refine ⟨by omega, ?_, ?_⟩
        · right; rw [hb, part_b1 l h _ 0 (by omega)] at t1; rw [hb, part_b1 l h _ 1 (by omega)] at t2; rw [hb, part_w2 l h _ 4 (by omega)]; exact ⟨h1, ⟨t1, t2⟩, rfl, rfl⟩
        · rw [← hpr, h1]; exact t3
    · rw [if_neg hu] at hy; exact absurd hy (whyI_pos _)
  · rw [if_neg h1] at hy; exact absurd hy (by decide)

theorem short_some (l : List Int) (h m : Nat) (s : Shown l h) (h1 : h + 8 ≤ m) (h2 : m ≤ l.length) : quoteO (l.take m) = some ⟨(dgOf l).proto, (dgOf l).src, (readR l).fp, (dgOf l).dst, (readR l).tp⟩ := by
  have hl : (l.take m).length = m := by rw [List.length_take]; omega
  have hd : hdOf (l.take m) = (h : Int) := by unfold hdOf; rw [take_b1 _ _ _ (by omega)]; exact s.hd
  have h20 := s.h20
  have hH : Head (l.take m) := ⟨by omega, by rw [take_b1 _ _ _ (by omega)]; exact s.good.c, by omega, by omega⟩
  unfold quoteO
  rw [if_pos ⟨hH, by rw [take_w2 _ _ _ (by omega)]; exact s.off⟩, hd, Int.toNat_natCast, take_b1 _ _ _ (by omega)]
  unfold portsOf
  rcases s.ports with ⟨hp, e1, e2⟩ | ⟨hp, he, e1, e2⟩
  · rw [if_pos hp, drop_w2, drop_w2, take_w2 _ _ _ (by omega), take_w2 _ _ _ (by omega), Nat.add_zero]
    simp only [Option.map_some, innOf]
    rw [take_b1 _ _ _ (by omega), take_w4 _ _ _ (by omega), take_w4 _ _ _ (by omega), e1, e2]
    rfl
  · have hE : echoB ((l.take m).drop h) = true := by
      unfold echoB
      rw [drop_b1, drop_b1, take_b1 _ _ _ (by omega), take_b1 _ _ _ (by omega), Nat.add_zero]
      exact decide_eq_true he
    rw [if_neg (by omega), if_pos ⟨hp, hE⟩, drop_w2, take_w2 _ _ _ (by omega)]
    simp only [Option.map_some, innOf]
    rw [take_b1 _ _ _ (by omega), take_w4 _ _ _ (by omega), take_w4 _ _ _ (by omega), e1, e2]
    rfl

theorem short_none (l : List Int) (h : Nat) (s : Shown l h) : quoteO (l.take (h + 7)) = none := by
  have hs := s.len
  have h20 := s.h20
  have hl : (l.take (h + 7)).length = h + 7 := by rw [List.length_take]; omega
  have hd : hdOf (l.take (h + 7)) = (h : Int) := by unfold hdOf; rw [take_b1 _ _ _ (by omega)]; exact s.hd
  unfold quoteO
  rw [if_neg]
  rintro ⟨q, -⟩
  have := q.e
  omega
end Go.Proofs.Ytdejjokgchbgnaa
