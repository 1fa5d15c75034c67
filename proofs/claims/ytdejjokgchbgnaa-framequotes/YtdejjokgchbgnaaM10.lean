/- The contract of Quote in the document's own answer: ports and echoes. -/
import Derived.Test.YtdejjokgchbgnaaM9
set_option maxRecDepth 100000
namespace Go.Proofs.Ytdejjokgchbgnaa
open Go.RowKit
attribute [local go_sem ↓] Go.wp_at_zero Go.wp_at_succ


set_option maxHeartbeats 8000000 in
theorem rquote_answer (b off len cap : Nat) (l : List Int) (w : World) (hA : At w b off len cap l) (hl : len ≤ 140737488351232) (g : Head l) (h : w2 l 6 % 8192 = 0) (h0 : Nat) (hh : hdOf l = (h0 : Int)) (hp : b1 l 9 = 1) (hq : b1 l h0 = 0 ∧ b1 l (h0 + 1) = 0) :
    Calls Try.prog 16 #[.slice (some ⟨b, off, none⟩) len cap] w fun e w' => e = .returned (.tuple #[inV (innOf l (w2 l (h0 + 4), w2 l (h0 + 4))), .bool true]) ∧ Below w.heap.size w w' := by
  have sd := set_drewN
  have ad := alloc_drewN
  have hL := hA.len
  rw [off_bytes l hA.bytes] at h
  obtain ⟨g1, g2, g3, g4⟩ := g
  rw [hL] at g1 g4
  unfold hdOf at g3 g4
  have h' : ¬ (len : Int) < 20 := by omega
  have l0 : 0 < len := by omega
  have l6 : (6 : Int) < (len : Int) := by omega
  have l7 : (7 : Int) < (len : Int) := by omega
  have l9 : (9 : Int) < (len : Int) := by omega
  have hA0 := hA.later (below_alloc w (.cells zeroIC 35))
  have c0 : (w.alloc (.cells zeroIC 35)).cell? ⟨b, off, none⟩ = some (.int .u8 (b1 l 0)) := hA0.sees 0 (by rw [hA.len]; omega)
  have c6 : (w.alloc (.cells zeroIC 35)).cell? ⟨b, off + 6, none⟩ = some (.int .u8 (b1 l 6)) := hA0.sees 6 (by rw [hA.len]; omega)
  have c7 : (w.alloc (.cells zeroIC 35)).cell? ⟨b, off + 7, none⟩ = some (.int .u8 (b1 l 7)) := hA0.sees 7 (by rw [hA.len]; omega)
  have c9 : (w.alloc (.cells zeroIC 35)).cell? ⟨b, off + 9, none⟩ = some (.int .u8 (b1 l 9)) := hA0.sees 9 (by rw [hA.len]; omega)
  have hv : (b1 l 0 / 16 != 4) = false := by rw [g2]; rfl
  obtain ⟨x0, y0⟩ := b1_bd l hA.bytes 0
  obtain ⟨x6, y6⟩ := b1_bd l hA.bytes 6
  obtain ⟨x7, y7⟩ := b1_bd l hA.bytes 7
  obtain ⟨x9, y9⟩ := b1_bd l hA.bytes 9
  have u9 : IntKind.i64.wrap (b1 l 9) = b1 l 9 := i64_id _ x9 (by omega)
  have hd : ¬ b1 l 0 % 16 < 5 := by omega
  have he : ¬ (len : Int) < b1 l 0 % 16 * 4 + 8 := by omega
  have h6' : (b1 l 6 % 32 != 0) = false := by simp; omega
  have h7' : (b1 l 7 != 0) = false := by simp; omega
  have HA : Hid (At w b off len cap l) := hA
  have hB := hA.bytes
  obtain ⟨h1, e1⟩ : ∃ h1, h0 + 1 = h1 := ⟨_, rfl⟩
  obtain ⟨h2, e2⟩ : ∃ h2, h0 + 2 = h2 := ⟨_, rfl⟩
  obtain ⟨h3, e3⟩ : ∃ h3, h0 + 3 = h3 := ⟨_, rfl⟩
  obtain ⟨h4, e4⟩ : ∃ h4, h0 + 4 = h4 := ⟨_, rfl⟩
  obtain ⟨h5, e5⟩ : ∃ h5, h0 + 5 = h5 := ⟨_, rfl⟩
  have hh' : b1 l 0 % 16 * 4 = (h0 : Int) := hh
  have hlt : h0 + 8 ≤ len := by omega
  have i0 : (h0 : Int) < (len : Int) := by omega
  have i1 : (h1 : Int) < (len : Int) := by omega
  have i2 : (h2 : Int) < (len : Int) := by omega
  have i3 : (h3 : Int) < (len : Int) := by omega
  have i4 : (h4 : Int) < (len : Int) := by omega
  have i5 : (h5 : Int) < (len : Int) := by omega
  have v1 : IntKind.i64.wrap ((h0 : Int) + 1) = (h1 : Int) := by rw [i64_id _ (by omega) (by omega)]; omega
  have v2 : IntKind.i64.wrap ((h0 : Int) + 2) = (h2 : Int) := by rw [i64_id _ (by omega) (by omega)]; omega
  have v3 : IntKind.i64.wrap ((h0 : Int) + 3) = (h3 : Int) := by rw [i64_id _ (by omega) (by omega)]; omega
  have v4 : IntKind.i64.wrap ((h0 : Int) + 4) = (h4 : Int) := by rw [i64_id _ (by omega) (by omega)]; omega
  have v5 : IntKind.i64.wrap ((h0 : Int) + 5) = (h5 : Int) := by rw [i64_id _ (by omega) (by omega)]; omega
  have HS : Hid (h0 + 8 ≤ l.length) := by show _ ≤ _; omega
  have HP : Hid (b1 l 9 = 1) := hp
  have he : ¬ (len : Int) < (h0 : Int) + 8 := by omega
  obtain ⟨z0, k0⟩ : ∃ z, l.getD h0 0 = z := ⟨_, rfl⟩
  obtain ⟨z1, k1⟩ : ∃ z, l.getD h1 0 = z := ⟨_, rfl⟩
  obtain ⟨z2, k2⟩ : ∃ z, l.getD h4 0 = z := ⟨_, rfl⟩
  obtain ⟨z3, k3⟩ : ∃ z, l.getD h5 0 = z := ⟨_, rfl⟩
  have a0 := getD_byte l hB h0
  have a1 := getD_byte l hB h1
  have a2 := getD_byte l hB h4
  have a3 := getD_byte l hB h5
  rw [k0] at a0
  rw [k1] at a1
  rw [k2] at a2
  rw [k3] at a3
  obtain ⟨o2, p4, p5, p6⟩ := two_bytes z2 z3 a2 a3
  obtain ⟨b00, b01⟩ := a0
  obtain ⟨b10, b11⟩ := a1
  obtain ⟨b20, b21⟩ := a2
  obtain ⟨b30, b31⟩ := a3
  rw [e1] at hq
  unfold b1 at hq
  rw [k0, k1] at hq
  have m8 : (z0 != 8) = true := by rw [hq.1]; rfl
  have m9 : (z0 != 0) = false := by rw [hq.1]; rfl
  have m0 : (z1 != 0) = false := by rw [hq.2]; rfl
  have HT : Hid (w2 l (h0 + 4) = z2 * 256 + z3) := by show _ = _; rw [← k2, ← k3, ← e4, ← e5]; rfl
  have HE : Hid ((h0 + 1 = h1 ∧ h0 + 4 = h4 ∧ h0 + 5 = h5) ∧ l.getD h0 0 = z0 ∧ l.getD h1 0 = z1 ∧ l.getD h4 0 = z2 ∧ l.getD h5 0 = z3) := ⟨⟨e1, e4, e5⟩, k0, k1, k2, k3⟩
  clear hA g2 g3 g4 h hL hh e1 e2 e3 e4 e5 hlt hp hB k0 k1 k2 k3 hq
  go_enter Try.func16, Try.ntmps16
  go_wp2_with fail
  go_region_held3 (fun w' => w'.cell? ⟨b, off + 9, none⟩ = some (.int .u8 (b1 l 9))) (first | exact c9 | go_keep)
    (first
      | (go_at_call_of 22 (Value.int .i64 12); refine (flong_any b off len cap l 12 12 _ (by first | exact hA0.later (below_drewN (Below.refl _ _) _) | exact hA0.later (below_drewN (below_alloc _ _) _)) rfl (by omega) hl).mono ?_; rintro e w4 ⟨rfl, n4, rfl⟩)
      | (go_at_call_of 22 (Value.int .i64 16); refine (flong_any b off len cap l 16 16 _ (by first | exact hA0.later (below_drewN (Below.refl _ _) _) | exact hA0.later (below_drewN (below_alloc _ _) _)) rfl (by omega) hl).mono ?_; rintro e w5 ⟨rfl, n5, rfl⟩))
  all_goals
    obtain ⟨W, hW, R⟩ := rq_new HA.out l0 (b1 l 9) (w4 l 12) (w4 l 16) 35 (1 + n4 + n5)
    rw [← hW]
    clear hW hA0 c0 c6 c7 c9
    have q17 := HP.out
    have s0 : W.cell? ⟨b, off + h0, none⟩ = some (.int .u8 z0) := by have := R.at_.sees h0 (by have := HS.out; omega); rwa [HE.out.2.1] at this
    have s1 : W.cell? ⟨b, off + h1, none⟩ = some (.int .u8 z1) := by have := R.at_.sees h1 (by have := HS.out; have := HE.out.1; omega); rwa [HE.out.2.2.1] at this
    have s2 : W.cell? ⟨b, off + h4, none⟩ = some (.int .u8 z2) := by have := R.at_.sees h4 (by have := HS.out; have := HE.out.1; omega); rwa [HE.out.2.2.2.1] at this
    have s3 : W.cell? ⟨b, off + h5, none⟩ = some (.int .u8 z3) := by have := R.at_.sees h5 (by have := HS.out; have := HE.out.1; omega); rwa [HE.out.2.2.2.2] at this
    obtain ⟨x0, x1, x2, x3, x4⟩ := R.x
    have hg := R.g
    have HR : Hid (RQ w W b off len cap l ⟨b1 l 9, w4 l 12, 0, w4 l 16, 0⟩) := R
    clear R
    go_wp2
    clear s0 s1 m8 m9 m0 l6 l7 l9 hv x6 y6 x7 y7 x9 y9 u9 hd h6' h7' v1 v2 v3 i1 i2 i3 b00 b01 b10 b11
    go_region
    obtain ⟨W2, hW2, R2⟩ : ∃ W2, W2 = (W.setCell ⟨w.heap.size + 1, 2, none⟩ (.int .i64 (z2 * 256 + z3))).drew ∧ RQ w W2 b off len cap l ⟨b1 l 9, w4 l 12, z2 * 256 + z3, w4 l 16, 0⟩ := ⟨_, rfl, (HR.out.sp _).drew⟩
    rw [← hW2]
    clear hW2 s2 s3 x0 x1 x2 x3 x4 hg HR
    have R3 := R2.dp (z2 * 256 + z3)
    obtain ⟨r0, r1, r2, r3, r4⟩ := R2.r
    obtain ⟨x0, x1, x2, x3, x4⟩ := R2.x
    have hf := R2.f
    have hg := R2.g
    have bel := laidI_below R3.bel ⟨b1 l 9, w4 l 12, z2 * 256 + z3, w4 l 16, z2 * 256 + z3⟩
    clear R3 R2
    have HT' := HT.out
    generalize z2 * 256 + z3 = Z at *
    have HT : Hid (w2 l (h0 + 4) = Z) := HT'
    have hn1 : ¬ (w.heap.size = w.heap.size + 1) := by omega
    have hn2 : ¬ (w.heap.size + 1 = w.heap.size) := by omega
    clear HT' o2 p4 p5 p6 b20 b21 b30 b31 i0 i4 i5 v4 v5 he g1 l0 h' hl HE HS sd ad
    go_wp2
    refine bodyPost_ret (v := .tuple #[inV (innOf l (w2 l (h0 + 4), w2 l (h0 + 4))), .bool true]) ?_ rfl ?_
    · simp [results, Try.results16, go_sem, innOf, HT.out, r0, r1, r2, r3, r4, q17]
    exact ⟨rfl, by rw [q17] at bel; exact bel⟩
end Go.Proofs.Ytdejjokgchbgnaa

namespace Go.Proofs.Ytdejjokgchbgnaa
open Go.RowKit

theorem rquote_no (a : Option Addr) (b off len cap : Nat) (l : List Int) (w : World) (ha : a = some ⟨b, off, none⟩ ∨ l = []) (hA : At w b off len cap l) (hl : len ≤ 140737488351232) (h : quoteO l = none) :
    Calls Try.prog 16 #[.slice a len cap] w fun e w' => e = .returned (.tuple #[inV Inn.zero, .bool false]) ∧ Below w.heap.size w w' := by
  have hL := hA.len
  by_cases h20 : len < 20
  · exact rquote_short a len cap w h20
  rcases ha with rfl | rfl
  case inr => simp at hL; omega
  by_cases g : Head l
  · obtain ⟨k, hk⟩ := head_nat l g
    unfold quoteO at h
    by_cases ho : w2 l 6 % 8192 = 0
    · rw [if_pos ⟨g, ho⟩, hk, Int.toNat_natCast, Option.map_eq_none_iff] at h
      unfold portsOf at h
      by_cases h17 : b1 l 9 = 17
      · rw [if_pos (.inl h17)] at h; cases h
      by_cases h6 : b1 l 9 = 6
      · rw [if_pos (.inr h6)] at h; cases h
      rw [if_neg (by omega)] at h
      by_cases h1 : b1 l 9 = 1
      · have hE : ¬ echoB (l.drop k) = true := fun q => by rw [if_pos ⟨h1, q⟩] at h; cases h
        unfold echoB at hE
        rw [drop_b1, drop_b1, Nat.add_zero] at hE
        simp only [decide_eq_true_eq] at hE
        by_cases e8 : b1 l k = 8
        · exact rquote_code8 b off len cap l w hA hl g ho k hk h1 ⟨e8, fun q => hE ⟨.inl e8, q⟩⟩
        by_cases e0 : b1 l k = 0
        · exact rquote_code0 b off len cap l w hA hl g ho k hk h1 ⟨e0, fun q => hE ⟨.inr e0, q⟩⟩
        exact rquote_type b off len cap l w hA hl g ho k hk h1 ⟨e8, e0, rfl⟩
      · exact rquote_other b off len cap l w hA hl g ho h17 h6 h1
    · exact rquote_off b off len cap l w hA g ho
  · by_cases hv : b1 l 0 / 16 = 4
    · by_cases hd : hdOf l < 20
      · exact rquote_few b off len cap l w hA (by omega) hv hd
      · refine rquote_len b off len cap l w hA (by omega) hv (by omega) ?_
        rcases Int.lt_or_le (len : Int) (hdOf l + 8) with q | q
        · exact q
        · exact absurd ⟨by omega, hv, by omega, by rw [hL]; exact q⟩ g
    · exact rquote_ver b off len cap l w hA (by omega) hv

theorem rquote_ok (b off len cap : Nat) (l : List Int) (x : Inn) (w : World) (hA : At w b off len cap l) (hl : len ≤ 140737488351232) (h : quoteO l = some x) :
    Calls Try.prog 16 #[.slice (some ⟨b, off, none⟩) len cap] w fun e w' => e = .returned (.tuple #[inV x, .bool true]) ∧ Below w.heap.size w w' := by
  unfold quoteO at h
  by_cases g : Head l ∧ w2 l 6 % 8192 = 0
  · rw [if_pos g] at h
    obtain ⟨g, ho⟩ := g
    obtain ⟨k, hk⟩ := head_nat l g
    rw [hk, Int.toNat_natCast] at h
    obtain ⟨⟨f, t⟩, hp, rfl⟩ := Option.map_eq_some_iff.1 h
    unfold portsOf at hp
    by_cases h17 : b1 l 9 = 17
    · rw [if_pos (.inl h17)] at hp
      obtain ⟨rfl, rfl⟩ := Prod.mk.inj (Option.some.inj hp)
      rw [drop_w2, drop_w2, Nat.add_zero]
      exact rquote_17 b off len cap l w hA hl g ho k hk h17
    by_cases h6 : b1 l 9 = 6
    · rw [if_pos (.inr h6)] at hp
      obtain ⟨rfl, rfl⟩ := Prod.mk.inj (Option.some.inj hp)
      rw [drop_w2, drop_w2, Nat.add_zero]
      exact rquote_6 b off len cap l w hA hl g ho k hk h6
    rw [if_neg (by omega)] at hp
    by_cases h1 : b1 l 9 = 1 ∧ echoB (l.drop k) = true
    · rw [if_pos h1] at hp
      obtain ⟨rfl, rfl⟩ := Prod.mk.inj (Option.some.inj hp)
      obtain ⟨h1, hE⟩ := h1
      unfold echoB at hE
      rw [drop_b1, drop_b1, Nat.add_zero] at hE
      simp only [decide_eq_true_eq] at hE
      rw [drop_w2]
      rcases hE with ⟨e8 | e0, ec⟩
      · exact rquote_ask b off len cap l w hA hl g ho k hk h1 ⟨e8, ec⟩
      · exact rquote_answer b off len cap l w hA hl g ho k hk h1 ⟨e0, ec⟩
    · rw [if_neg h1] at hp; cases hp
  · rw [if_neg g] at h; cases h
end Go.Proofs.Ytdejjokgchbgnaa
