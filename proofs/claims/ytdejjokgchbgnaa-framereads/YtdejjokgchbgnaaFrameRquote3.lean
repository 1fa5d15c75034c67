/- The contract of Quote in the document's own answer: ports and echoes. -/
import Derived.Test.YtdejjokgchbgnaaFrameRquote2b
set_option maxRecDepth 100000
namespace Go.Proofs.Ytdejjokgchbgnaa
open Go.RowKit
attribute [local go_sem ↓] Go.wp_at_zero Go.wp_at_succ


set_option maxHeartbeats 8000000 in
theorem rquote_17 (b off len cap : Nat) (l : List Int) (w : World) (hA : At w b off len cap l) (hl : len ≤ 140737488351232) (g : Head l) (h : w2 l 6 % 8192 = 0) (h0 : Nat) (hh : hdOf l = (h0 : Int)) (hp : b1 l 9 = 17) :
    Calls Try.prog 16 #[.slice (some ⟨b, off, none⟩) len cap] w fun e w' => e = .returned (.tuple #[inV (innOf l (w2 l h0, w2 l (h0 + 2))), .bool true]) ∧ Below w.heap.size w w' := by
  have sd := set_drewN
  have ad := alloc_drewN
  have hL := hA.len
  rw [off_bytes l hA.bytes] at h
  obtain ⟨g1, g2, g3, g4⟩ := g
  rw [hL] at g1 g4
  unfold hdOf at g3 g4
  have h' : ¬ (len : Int) < 20 := by omega
  have l0 : 0 < len := by omega
  have l6 : (6 : Int) < (len : Int) := by omega
  have l7 : (7 : Int) < (len : Int) := by omega
  have l9 : (9 : Int) < (len : Int) := by omega
  have hA0 := hA.later (below_alloc w (.cells zeroIC 35))
  have c0 : (w.alloc (.cells zeroIC 35)).cell? ⟨b, off, none⟩ = some (.int .u8 (b1 l 0)) := hA0.sees 0 (by rw [hA.len]; omega)
  have c6 : (w.alloc (.cells zeroIC 35)).cell? ⟨b, off + 6, none⟩ = some (.int .u8 (b1 l 6)) := hA0.sees 6 (by rw [hA.len]; omega)
  have c7 : (w.alloc (.cells zeroIC 35)).cell? ⟨b, off + 7, none⟩ = some (.int .u8 (b1 l 7)) := hA0.sees 7 (by rw [hA.len]; omega)
  have c9 : (w.alloc (.cells zeroIC 35)).cell? ⟨b, off + 9, none⟩ = some (.int .u8 (b1 l 9)) := hA0.sees 9 (by rw [hA.len]; omega)
  have hv : (b1 l 0 / 16 != 4) = false := by rw [g2]; rfl
  obtain ⟨x0, y0⟩ := b1_bd l hA.bytes 0
  obtain ⟨x6, y6⟩ := b1_bd l hA.bytes 6
  obtain ⟨x7, y7⟩ := b1_bd l hA.bytes 7
  obtain ⟨x9, y9⟩ := b1_bd l hA.bytes 9
  have u9 : IntKind.i64.wrap (b1 l 9) = b1 l 9 := i64_id _ x9 (by omega)
  have hd : ¬ b1 l 0 % 16 < 5 := by omega
  have he : ¬ (len : Int) < b1 l 0 % 16 * 4 + 8 := by omega
  have h6' : (b1 l 6 % 32 != 0) = false := by simp; omega
  have h7' : (b1 l 7 != 0) = false := by simp; omega
  have HA : Hid (At w b off len cap l) := hA
  have hB := hA.bytes
  obtain ⟨h1, e1⟩ : ∃ h1, h0 + 1 = h1 := ⟨_, rfl⟩
  obtain ⟨h2, e2⟩ : ∃ h2, h0 + 2 = h2 := ⟨_, rfl⟩
  obtain ⟨h3, e3⟩ : ∃ h3, h0 + 3 = h3 := ⟨_, rfl⟩
  obtain ⟨h4, e4⟩ : ∃ h4, h0 + 4 = h4 := ⟨_, rfl⟩
  obtain ⟨h5, e5⟩ : ∃ h5, h0 + 5 = h5 := ⟨_, rfl⟩
  have hh' : b1 l 0 % 16 * 4 = (h0 : Int) := hh
  have hlt : h0 + 8 ≤ len := by omega
  have i0 : (h0 : Int) < (len : Int) := by omega
  have i1 : (h1 : Int) < (len : Int) := by omega
  have i2 : (h2 : Int) < (len : Int) := by omega
  have i3 : (h3 : Int) < (len : Int) := by omega
  have i4 : (h4 : Int) < (len : Int) := by omega
  have i5 : (h5 : Int) < (len : Int) := by omega
  have v1 : IntKind.i64.wrap ((h0 : Int) + 1) = (h1 : Int) := by rw [i64_id _ (by omega) (by omega)]; omega
  have v2 : IntKind.i64.wrap ((h0 : Int) + 2) = (h2 : Int) := by rw [i64_id _ (by omega) (by omega)]; omega
  have v3 : IntKind.i64.wrap ((h0 : Int) + 3) = (h3 : Int) := by rw [i64_id _ (by omega) (by omega)]; omega
  have v4 : IntKind.i64.wrap ((h0 : Int) + 4) = (h4 : Int) := by rw [i64_id _ (by omega) (by omega)]; omega
  have v5 : IntKind.i64.wrap ((h0 : Int) + 5) = (h5 : Int) := by rw [i64_id _ (by omega) (by omega)]; omega
  have HS : Hid (h0 + 8 ≤ l.length) := by show _ ≤ _; omega
  have HP : Hid (b1 l 9 = 17) := hp
  have he : ¬ (len : Int) < (h0 : Int) + 8 := by omega
  obtain ⟨z0, k0⟩ : ∃ z, l.getD h0 0 = z := ⟨_, rfl⟩
  obtain ⟨z1, k1⟩ : ∃ z, l.getD h1 0 = z := ⟨_, rfl⟩
  obtain ⟨z2, k2⟩ : ∃ z, l.getD h2 0 = z := ⟨_, rfl⟩
  obtain ⟨z3, k3⟩ : ∃ z, l.getD h3 0 = z := ⟨_, rfl⟩
  have a0 := getD_byte l hB h0
  have a1 := getD_byte l hB h1
  have a2 := getD_byte l hB h2
  have a3 := getD_byte l hB h3
  rw [k0] at a0
  rw [k1] at a1
  rw [k2] at a2
  rw [k3] at a3
  obtain ⟨o1, p1, p2, p3⟩ := two_bytes z0 z1 a0 a1
  obtain ⟨o2, p4, p5, p6⟩ := two_bytes z2 z3 a2 a3
  obtain ⟨b00, b01⟩ := a0
  obtain ⟨b10, b11⟩ := a1
  obtain ⟨b20, b21⟩ := a2
  obtain ⟨b30, b31⟩ := a3
  have HF : Hid (w2 l h0 = z0 * 256 + z1) := by show _ = _; rw [← k0, ← k1, ← e1]; rfl
  have HT : Hid (w2 l (h0 + 2) = z2 * 256 + z3) := by show _ = _; rw [← k2, ← k3, ← e2, ← e3]; rfl
  have HE : Hid ((h0 + 1 = h1 ∧ h0 + 2 = h2 ∧ h0 + 3 = h3) ∧ l.getD h0 0 = z0 ∧ l.getD h1 0 = z1 ∧ l.getD h2 0 = z2 ∧ l.getD h3 0 = z3) := ⟨⟨e1, e2, e3⟩, k0, k1, k2, k3⟩
  clear hA g2 g3 g4 h hL hh e1 e2 e3 e4 e5 hlt hp hB k0 k1 k2 k3
  go_enter Try.func16, Try.ntmps16
  go_wp2_with fail
  go_region_held3 (fun w' => w'.cell? ⟨b, off + 9, none⟩ = some (.int .u8 (b1 l 9))) (first | exact c9 | go_keep)
    (first
      | (go_at_call_of 22 (Value.int .i64 12); refine (flong_any b off len cap l 12 12 _ (by first | exact hA0.later (below_drewN (Below.refl _ _) _) | exact hA0.later (below_drewN (below_alloc _ _) _)) rfl (by omega) hl).mono ?_; rintro e w4 ⟨rfl, n4, rfl⟩)
      | (go_at_call_of 22 (Value.int .i64 16); refine (flong_any b off len cap l 16 16 _ (by first | exact hA0.later (below_drewN (Below.refl _ _) _) | exact hA0.later (below_drewN (below_alloc _ _) _)) rfl (by omega) hl).mono ?_; rintro e w5 ⟨rfl, n5, rfl⟩))
  all_goals
    obtain ⟨W, hW, R⟩ := rq_new HA.out l0 (b1 l 9) (w4 l 12) (w4 l 16) 35 (1 + n4 + n5)
    rw [← hW]
    clear hW hA0 c0 c6 c7 c9
    have q17 := HP.out
    have s0 : W.cell? ⟨b, off + h0, none⟩ = some (.int .u8 z0) := by have := R.at_.sees h0 (by have := HS.out; omega); rwa [HE.out.2.1] at this
    have s1 : W.cell? ⟨b, off + h1, none⟩ = some (.int .u8 z1) := by have := R.at_.sees h1 (by have := HS.out; have := HE.out.1; omega); rwa [HE.out.2.2.1] at this
    obtain ⟨x0, x1, x2, x3, x4⟩ := R.x
    have hg := R.g
    have HR : Hid (RQ w W b off len cap l ⟨b1 l 9, w4 l 12, 0, w4 l 16, 0⟩) := R
    clear R
    go_wp2
    go_region
    obtain ⟨W2, hW2, R2⟩ : ∃ W2, W2 = (W.setCell ⟨w.heap.size + 1, 2, none⟩ (.int .i64 (z0 * 256 + z1))).drew ∧ RQ w W2 b off len cap l ⟨b1 l 9, w4 l 12, z0 * 256 + z1, w4 l 16, 0⟩ := ⟨_, rfl, (HR.out.sp _).drew⟩
    rw [← hW2]
    clear hW2 s0 s1 x0 x1 x2 x3 x4 hg HR
    have s2 : W2.cell? ⟨b, off + h2, none⟩ = some (.int .u8 z2) := by have := R2.at_.sees h2 (by have := HS.out; have := HE.out.1; omega); rwa [HE.out.2.2.2.1] at this
    have s3 : W2.cell? ⟨b, off + h3, none⟩ = some (.int .u8 z3) := by have := R2.at_.sees h3 (by have := HS.out; have := HE.out.1; omega); rwa [HE.out.2.2.2.2] at this
    obtain ⟨x0, x1, x2, x3, x4⟩ := R2.x
    have hg := R2.g
    have HR : Hid (RQ w W2 b off len cap l ⟨b1 l 9, w4 l 12, z0 * 256 + z1, w4 l 16, 0⟩) := R2
    clear R2
    go_wp2
    go_region
    obtain ⟨W3, hW3, R3⟩ : ∃ W3, W3 = (W2.setCell ⟨w.heap.size + 1, 4, none⟩ (.int .i64 (z2 * 256 + z3))).drew ∧ RQ w W3 b off len cap l ⟨b1 l 9, w4 l 12, z0 * 256 + z1, w4 l 16, z2 * 256 + z3⟩ := ⟨_, rfl, (HR.out.dp _).drew⟩
    rw [← hW3]
    clear hW3 s2 s3 x0 x1 x2 x3 x4 hg HR
    obtain ⟨r0, r1, r2, r3, r4⟩ := R3.r
    obtain ⟨x0, x1, x2, x3, x4⟩ := R3.x
    have hf := R3.f
    have bel := laidI_below R3.bel ⟨b1 l 9, w4 l 12, z0 * 256 + z1, w4 l 16, z2 * 256 + z3⟩
    clear R3
    go_wp2
    refine bodyPost_ret (v := .tuple #[inV (innOf l (w2 l h0, w2 l (h0 + 2))), .bool true]) ?_ rfl ?_
    · simp [results, Try.results16, go_sem, innOf, HF.out, HT.out, r0, r1, r2, r3, r4, q17]
    exact ⟨rfl, by rw [q17] at bel; exact bel⟩
end Go.Proofs.Ytdejjokgchbgnaa
