/- The library's sort of subscribers: patterns are broken. -/
import Derived.Test.YtafkkehcacdodaaGreatTraSortC
import Derived.Test.YtafkkehcacdodaaGreatSpShelf
import Derived.Sort.LotD5
import Derived.Deep.CutRange
import Derived.Sort.LotD1
import Derived.Laws.Bits64
import Derived.Laws.Bits64b
import Derived.Shelf.Small.Bits
import Derived.Sort.WalkA14
set_option maxRecDepth 100000
namespace Go.Proofs.YtafkkehcacdodaaGreat
open Go.RowKit Go.Shelf Go.Sort
attribute [local go_sem ↓] Go.wp_at_zero Go.wp_at_succ

/-- The row is e; the new block c holds the random number X; nothing else that stood has turned. -/
def XW (w wr : World) (base g cap N c X : Nat) (e : Array Int) : Prop := RwU w wr base g cap N e ∧ wr.cell? ⟨c, 0, none⟩ = some (.int .u64 (X : Int)) ∧ wr.frozen? ⟨c, 0, none⟩ = false

theorem XW.put {w wr : World} {base g cap N c X : Nat} {e : Array Int} (h : XW w wr base g cap N c X e) (hcg : c ≠ g) (hc : w.heap.size ≤ c) (Y : Nat) : XW w (wr.setCell ⟨c, 0, none⟩ (.int .u64 (Y : Int))) base g cap N c Y e := by
  refine ⟨⟨h.1.1.grown (grown_set _) hcg, h.1.2.1, h.1.2.2.andThen (grown_set _) (fun j ej => .inl (by cases ej; exact hc))⟩, ?_, ?_⟩
  · exact World.cell?_setCell_same _ _ _ h.2.1
  · exact (World.frozen?_setCell ..).trans h.2.2

theorem XW.drew {w wr : World} {base g cap N c X : Nat} {e : Array Int} (h : XW w wr base g cap N c X e) (q : Nat) : XW w (wr.drewN q) base g cap N c X e := ⟨h.1.drew q, h.2.1, h.2.2⟩

theorem XW.swap {w wr : World} {base g cap N c X : Nat} {e : Array Int} (h : XW w wr base g cap N c X e) (hcg : c ≠ g) (q : Nat) {G : Nat → Int} (hG : ∀ t, G t = e[t]!) (i j : Nat) :
    XW w (((wr.drewN q).setCell ⟨g, i, none⟩ (.int .u32 (G j))).setCell ⟨g, j, none⟩ (.int .u32 (G i))) base g cap N c X (Sort.swp e i j) := by
  refine ⟨h.1.swap q hG i j, ?_, ?_⟩
  · rw [World.cell?_setCell_other _ _ _ _ (fun e => hcg (congrArg Addr.block e).symm), World.cell?_setCell_other _ _ _ _ (fun e => hcg (congrArg Addr.block e).symm)]
    exact h.2.1
  · rw [World.frozen?_setCell, World.frozen?_setCell]
    exact h.2.2

/-- The next random number: the library's own words, three stores into one cell. -/
theorem nextU_any (w : World) (c X : Nat) (hX : X < 18446744073709551616) (hc : w.cell? ⟨c, 0, none⟩ = some (.int .u64 (X : Int))) (hf : w.frozen? ⟨c, 0, none⟩ = false) :
    Calls Tryz.prog 147 #[.pointer (some ⟨c, 0, none⟩)] w fun e w' => e = .returned (.int .u64 (xorNextN X : Nat)) ∧ ∃ w1 w2 : World, ∃ v1 v2 : Nat, w1 = (w.setCell ⟨c, 0, none⟩ (.int .u64 (v1 : Int))).drewN 1 ∧ w2 = (w1.setCell ⟨c, 0, none⟩ (.int .u64 (v2 : Int))).drewN 1 ∧ w' = (w2.setCell ⟨c, 0, none⟩ (.int .u64 (xorNextN X : Nat))).drewN 1 := by
  obtain ⟨A, hA⟩ : ∃ A : Nat, A = X ^^^ (X * 8192 % 18446744073709551616) := ⟨_, rfl⟩
  obtain ⟨B, hB⟩ : ∃ B : Nat, B = A ^^^ (A / 128) := ⟨_, rfl⟩
  obtain ⟨C, hC⟩ : ∃ C : Nat, C = B ^^^ (B * 131072 % 18446744073709551616) := ⟨_, rfl⟩
  have lA : A < 18446744073709551616 := by rw [hA]; exact Nat.xor_lt_two_pow (n := 64) (by omega) (by omega)
  have lB : B < 18446744073709551616 := by rw [hB]; exact Nat.xor_lt_two_pow (n := 64) (by omega) (by omega)
  have e1 : bits .xor .u64 (X : Int) (IntKind.u64.wrap ((X : Int) * 8192)) = (A : Int) := by
    rw [IntKind.wrap_u64, show ((X : Int) * 8192 % 18446744073709551616) = ((X * 8192 % 18446744073709551616 : Nat) : Int) by omega, bits_xor_u64_nat _ _ hX (by omega), hA]
  have e2 : bits .xor .u64 (A : Int) ((A : Int) / 128) = (B : Int) := by
    rw [show ((A : Int) / 128) = ((A / 128 : Nat) : Int) by omega, bits_xor_u64_nat _ _ lA (by omega), hB]
  have e3 : bits .xor .u64 (B : Int) (IntKind.u64.wrap ((B : Int) * 131072)) = (C : Int) := by
    rw [IntKind.wrap_u64, show ((B : Int) * 131072 % 18446744073709551616) = ((B * 131072 % 18446744073709551616 : Nat) : Int) by omega, bits_xor_u64_nat _ _ lB (by omega), hC]
  have hv : xorNextN X = C := by unfold xorNextN; simp only []; rw [← hA, ← hB, ← hC]
  rw [hv]
  clear hA hB hC hv
  go_enter Tryz.func147, Tryz.ntmps147
  go_wp2
  go_region
  have hc1 : (w.setCell ⟨c, 0, none⟩ (.int .u64 (A : Int))).cell? ⟨c, 0, none⟩ = some (.int .u64 (A : Int)) := World.cell?_setCell_same _ _ _ hc
  have hf1 : (w.setCell ⟨c, 0, none⟩ (.int .u64 (A : Int))).frozen? ⟨c, 0, none⟩ = false := (World.frozen?_setCell ..).trans hf
  have H1 : Hid ((w.setCell ⟨c, 0, none⟩ (.int .u64 (A : Int))).drew = (w.setCell ⟨c, 0, none⟩ (.int .u64 (A : Int))).drewN 1) := rfl
  have hc2 : (w.setCell ⟨c, 0, none⟩ (.int .u64 (A : Int))).drew.cell? ⟨c, 0, none⟩ = some (.int .u64 (A : Int)) := hc1
  have hf2 : (w.setCell ⟨c, 0, none⟩ (.int .u64 (A : Int))).drew.frozen? ⟨c, 0, none⟩ = false := hf1
  clear hc1 hf1 hc hf
  generalize (w.setCell ⟨c, 0, none⟩ (.int .u64 (A : Int))).drew = W1 at H1 hc2 hf2 ⊢
  go_wp2
  go_region
  have hc1 : (W1.setCell ⟨c, 0, none⟩ (.int .u64 (B : Int))).cell? ⟨c, 0, none⟩ = some (.int .u64 (B : Int)) := World.cell?_setCell_same _ _ _ hc2
  have hf1 : (W1.setCell ⟨c, 0, none⟩ (.int .u64 (B : Int))).frozen? ⟨c, 0, none⟩ = false := (World.frozen?_setCell ..).trans hf2
  have H2 : Hid ((W1.setCell ⟨c, 0, none⟩ (.int .u64 (B : Int))).drew = (W1.setCell ⟨c, 0, none⟩ (.int .u64 (B : Int))).drewN 1) := rfl
  have hc3 : (W1.setCell ⟨c, 0, none⟩ (.int .u64 (B : Int))).drew.cell? ⟨c, 0, none⟩ = some (.int .u64 (B : Int)) := hc1
  have hf3 : (W1.setCell ⟨c, 0, none⟩ (.int .u64 (B : Int))).drew.frozen? ⟨c, 0, none⟩ = false := hf1
  clear hc1 hf1 hc2 hf2
  generalize (W1.setCell ⟨c, 0, none⟩ (.int .u64 (B : Int))).drew = W2 at H2 hc3 hf3 ⊢
  go_wp2
  go_region
  all_goals go_wp2
  go_ret
  exact ⟨rfl, W1, W2, A, B, H1.out, H2.out, rfl⟩

theorem two_wrap (k : Nat) (hk : k ≤ 62) : IntKind.u64.wrap ((2 : Int) ^ k) = ((1 <<< k : Nat) : Int) := by
  have h : (2 : Nat) ^ k ≤ 2 ^ 62 := Nat.pow_le_pow_right (by decide) hk
  rw [IntKind.wrap_u64, Nat.one_shiftLeft, show ((2 : Int) ^ k) = ((2 ^ k : Nat) : Int) by push_cast; rfl]
  generalize (2 : Nat) ^ k = p at h
  omega

theorem power_any (n : Nat) (hn : n ≤ 100000) (w : World) :
    Calls Tryz.prog 146 #[.int .i64 (n : Int)] w fun e w' => e = .returned (.int .u64 ((1 <<< bitsLen n : Nat) : Int)) ∧ w' = w := by
  have hLen : ∀ w, Calls Tryz.prog 114 #[.int .u64 (n : Int)] w fun e w' => e = .returned (.int .i64 (bitsLen n : Nat)) ∧ w' = w := fun w => by
    have h : Calls Tryz.prog 114 #[.int .u64 (n : Int)] w fun e w' => e = .returned (.int .i64 (Lib.bitLen (n : Int).toNat)) ∧ w' = w := Any.bits_Len Tryz.bitsLen (n : Int) w (by omega) (by omega)
    rwa [Int.toNat_natCast, bitLen_eq _ (by omega)] at h
  have hk : bitsLen n ≤ 62 := (bitsLen_le_iff n 62).2 (by omega)
  have hp := two_wrap (bitsLen n) hk
  have hwr : IntKind.u64.wrap (n : Int) = (n : Int) := by rw [IntKind.wrap_u64]; omega
  generalize bitsLen n = k at *
  go_enter Tryz.func146, Tryz.ntmps146
  go_wp2_with (first | (go_at_call 114; refine (hLen _).mono ?_; rintro e w' ⟨rfl, rfl⟩))
  go_ret
  exact ⟨rfl, rfl⟩

/-- So many rounds are left, t are done. -/
def roundsX (a L M i0 : Nat) : Nat → Nat → UInt64 × Array Int → Array Int
  | 0, _, st => st.2
  | k + 1, t, st => roundsX a L M i0 k (t + 1) (breakStep a L M st (i0 + t))

theorem break_eq (d : Array Int) (a b L : Nat) (hL : L = b - a) (h8 : 8 ≤ L) : breakPatterns d a b = roundsX a L (1 <<< bitsLen L) (a + L / 4 * 2 - 1) 3 0 (UInt64.ofNat L, d) := by
  subst hL
  unfold breakPatterns
  rw [if_pos h8]
  rfl

theorem roundsX_go (a L M i0 k t : Nat) (r : UInt64) (d : Array Int) (o : Nat) (ho : (if (xorNext r).toNat &&& (M - 1) ≥ L then ((xorNext r).toNat &&& (M - 1)) - L else (xorNext r).toNat &&& (M - 1)) = o) :
    roundsX a L M i0 (k + 1) t (r, d) = roundsX a L M i0 k (t + 1) (xorNext r, swp d (i0 + t) (a + o)) := by
  rw [roundsX]
  unfold breakStep
  simp only [ho]

theorem XW.next {w wr : World} {base g cap N c X : Nat} {e : Array Int} (h : XW w wr base g cap N c X e) (hcg : c ≠ g) (hc : w.heap.size ≤ c) (hX : X < 18446744073709551616) :
    Calls Tryz.prog 147 #[.pointer (some ⟨c, 0, none⟩)] wr fun e' w' => e' = .returned (.int .u64 (xorNextN X : Nat)) ∧ XW w w' base g cap N c (xorNextN X) e := by
  refine (nextU_any wr c X hX h.2.1 h.2.2).mono ?_
  rintro e' w' ⟨he, w1, w2, v1, v2, h1, h2, h3⟩
  refine ⟨he, ?_⟩
  have k1 : XW w w1 base g cap N c v1 e := by rw [h1]; exact (h.put hcg hc v1).drew 1
  have k2 : XW w w2 base g cap N c v2 e := by rw [h2]; exact (k1.put hcg hc v2).drew 1
  rw [h3]
  exact (k2.put hcg hc _).drew 1

theorem XW.fresh {w : World} {base g cap N : Nat} {d : Array Int} (h : UA w base g cap d) (hN : d.size = N) (X : Nat) (T : Nat) : XW w (w.alloc (.cells #[.int .u64 (X : Int)] T)) base g cap N w.heap.size X d := by
  refine ⟨⟨ownsRow_later h (below_alloc _ _), hN, ⟨rfl, rfl, rfl, (below_alloc w _).size, fun k hk _ => (below_alloc w _).block k hk⟩⟩, ?_, ?_⟩
  · simp
  · simp

set_option maxHeartbeats 8000000 in
theorem break_ok (w : World) (base g cap N : Nat) (d : Array Int) (a b : Nat) (h : UA w base g cap d) (hN : d.size = N) (hab : a ≤ b) (hb : b ≤ N) (hd : N ≤ 100000) :
    Calls Tryz.prog 132 #[.slice (some ⟨g, 0, none⟩) N cap, .int .i64 a, .int .i64 b] w fun e w' => e = .returned (.tuple #[]) ∧ RwU w w' base g cap N (breakPatterns d a b) := by
  obtain ⟨L, hL⟩ : ∃ L : Nat, L = b - a := ⟨_, rfl⟩
  have hLI : (b : Int) - (a : Int) = (L : Int) := by omega
  have hw1 : IntKind.i64.wrap (L : Int) = (L : Int) := IntWalk.i64_in _ (by omega)
  by_cases h8 : 8 ≤ L
  case neg =>
    have hE : Hid (breakPatterns d a b = d) := by show _ = _; unfold breakPatterns; rw [if_neg (by omega)]
    have HR : Hid (RwU w w base g cap N d) := RwU.start h hN
    have h8I : ¬ (8 : Int) ≤ (L : Int) := by omega
    clear h hN hL
    go_enter Tryz.func132, Tryz.ntmps132
    go_wp2
    refine bodyPost_end (results_none rfl _ _ _) rfl ?_
    exact ⟨rfl, by rw [hE.out]; exact HR.out⟩
  case pos =>
    have h8I : (8 : Int) ≤ (L : Int) := by omega
    obtain ⟨hcg, -⟩ := CW.fresh h
    obtain ⟨M, hM⟩ : ∃ M : Nat, M = 1 <<< bitsLen L := ⟨_, rfl⟩
    have hM1 : 1 ≤ M := by rw [hM, Nat.one_shiftLeft]; exact Nat.two_pow_pos _
    have hM2 : M ≤ 2 * L := by rw [hM, Nat.one_shiftLeft]; exact two_pow_bitsLen_le (by omega)
    have hNP : Hid (∀ w, Calls Tryz.prog 146 #[.int .i64 (L : Int)] w fun e w' => e = .returned (.int .u64 (M : Int)) ∧ w' = w) := by rw [hM]; exact fun w => power_any L (by omega) w
    obtain ⟨q, hq⟩ : ∃ q : Nat, q = L / 4 := ⟨_, rfl⟩
    obtain ⟨J, hJ⟩ : ∃ J : Nat, J = a + q * 2 := ⟨_, rfl⟩
    obtain ⟨i0, hi0⟩ : ∃ i0 : Nat, i0 = J - 1 := ⟨_, rfl⟩
    have hq2 : 2 ≤ q := by omega
    have hqI : (L : Int) / 4 = (q : Int) := by omega
    have hJI : (a : Int) + (q : Int) * 2 = (J : Int) := by omega
    have hiI : (J : Int) - 1 = (i0 : Int) := by omega
    have hw2 : IntKind.i64.wrap (q : Int) = (q : Int) := IntWalk.i64_in _ (by omega)
    have hw3 : IntKind.i64.wrap ((q : Int) * 2) = (q : Int) * 2 := IntWalk.i64_in _ (by omega)
    have hw4 : IntKind.i64.wrap (J : Int) = (J : Int) := IntWalk.i64_in _ (by omega)
    have hw5 : IntKind.i64.wrap (i0 : Int) = (i0 : Int) := IntWalk.i64_in _ (by omega)
    have hw6 : IntKind.i64.wrap ((J : Int) + 1) = (J : Int) + 1 := IntWalk.i64_in _ (by omega)
    have hw7 : IntKind.u64.wrap (L : Int) = (L : Int) := by rw [IntKind.wrap_u64]; omega
    have hw8 : IntKind.u64.wrap ((M : Int) - 1) = (M : Int) - 1 := by rw [IntKind.wrap_u64]; omega
    have hiN : i0 + 3 ≤ N := by omega
    have hi2 : i0 + 2 = J + 1 := by omega
    have hab2 : a + L ≤ N := by omega
    obtain ⟨R, hR⟩ : ∃ R, R = breakPatterns d a b := ⟨_, rfl⟩
    have HR0 : Hid (roundsX a L M i0 3 0 (UInt64.ofNat L, d) = R) := by
      show _ = _
      rw [hR, break_eq d a b L hL h8, ← hM, ← hq, ← hJ, ← hi0]
    rw [← hR]
    have HX0 : Hid (XW w (w.alloc (.cells #[.int .u64 (L : Int)] 207)) base g cap N w.heap.size (UInt64.ofNat L).toNat d) := by
      have : (UInt64.ofNat L).toNat = L := by simp; omega
      rw [this]
      exact XW.fresh h hN L _
    generalize hW : w.alloc (.cells #[.int .u64 (L : Int)] 207) = W at *
    obtain ⟨c, hc⟩ : ∃ c, w.heap.size = c := ⟨_, rfl⟩
    rw [hc] at hcg HX0
    have HC : Hid (w.heap.size ≤ c) := Nat.le_of_eq hc
    have HI : Hid (i0 + 2 = J + 1 ∧ a + L ≤ N ∧ M ≤ 2 * L) := ⟨hi2, hab2, hM2⟩
    clear h hN hL hM hq hJ hi0 hR hi2
    go_enter Tryz.func132, Tryz.ntmps132
    go_wp2_with (first | (go_at_call 146; refine (hNP.out _).mono ?_; rintro e w' ⟨rfl, rfl⟩))
    go_loopg [9] 3 (fun gk v wr => ∃ (t x : Nat) (r : UInt64) (e : Array Int), t + gk = 3 ∧ x = i0 + t ∧ v = .int .i64 (x : Int) ∧ XW w wr base g cap N c r.toNat e ∧ Hid (roundsX a L M i0 gk t (r, e) = R))
    case atStart => exact ⟨0, i0, _, d, rfl, rfl, rfl, HX0.out, HR0.out⟩
    case round =>
      clear HX0 HR0 hW
      obtain ⟨t, x, r, e, htg, hx, rfl, hu, ho⟩ := hrel
      have HU : Hid (XW w wr base g cap N c r.toNat e) := hu
      by_cases hg0 : gk = 0
      · subst hg0
        have hxJ : ¬ (x : Int) ≤ (J : Int) + 1 := by have := HI.out.1; omega
        have HE : Hid (R = e) := ho.out.symm
        clear hu ho hx htg
        go_wp2
        refine bodyPost_end (results_none rfl _ _ _) rfl ?_
        exact ⟨rfl, by rw [HE.out]; exact HU.out.1⟩
      · obtain ⟨n, rfl⟩ : ∃ n, gk = n + 1 := ⟨gk - 1, by omega⟩
        have hxJ : (x : Int) ≤ (J : Int) + 1 := by have := HI.out.1; omega
        have hxN : x < N := by have := HI.out.1; omega
        obtain ⟨O, hO⟩ : ∃ O : Nat, O = xorNextN r.toNat &&& (M - 1) := ⟨_, rfl⟩
        have lX : xorNextN r.toNat < 18446744073709551616 := xorNextN_lt _ r.toNat_lt
        have lO : O ≤ M - 1 := by rw [hO]; exact Nat.and_le_right
        have HT : Hid (t + (n + 1) = 3 ∧ x = i0 + t) := ⟨htg, hx⟩
        have HO : Hid (∀ o, (if O ≥ L then O - L else O) = o → roundsX a L M i0 n (t + 1) (xorNext r, swp e x (a + o)) = R) := fun o h => by
          rw [← ho.out, roundsX_go a L M i0 n t r e o (by rw [xorNext_toNat, ← hO]; exact h), ← hx]
        obtain ⟨Y, hY⟩ : ∃ Y, Y = xorNextN r.toNat := ⟨_, rfl⟩
        have HY : Hid (Y = (xorNext r).toNat) := by show _ = _; rw [xorNext_toNat]; exact hY
        have eAnd : bits .and .u64 (Y : Int) ((M : Int) - 1) = (O : Int) := by
          rw [show ((M : Int) - 1) = ((M - 1 : Nat) : Int) by omega, hY, bits_and_u64_nat _ _ lX (by have := HI.out; omega), hO]
        have hNx : Hid (Calls Tryz.prog 147 #[.pointer (some ⟨c, 0, none⟩)] wr fun e' w' => e' = .returned (.int .u64 (Y : Int)) ∧ XW w w' base g cap N c Y e) := by
          rw [hY]
          exact hu.next hcg HC.out r.toNat_lt
        have hwO : IntKind.i64.wrap (O : Int) = (O : Int) := IntWalk.i64_in _ (by have := HI.out; omega)
        clear hu ho hx htg hO lX hY HU
        go_upto_if 43 with (first | (go_at_call 147; refine hNx.out.mono ?_; rintro e' w2 ⟨rfl, hu2⟩; have HU2 : Hid (XW w w2 base g cap N c Y e) := hu2; clear hu2))
        go_cut [10] from 26 to 64 (fun v wx => ∃ o : Nat, v = .int .i64 (o : Int) ∧ o < L ∧ (if O ≥ L then O - L else O) = o ∧ XW w wx base g cap N c Y e)
        case first =>
          by_cases hOL : O ≥ L
          · have hOLI : (L : Int) ≤ (O : Int) := by omega
            have hwOL : IntKind.i64.wrap ((O : Int) - (L : Int)) = (O : Int) - (L : Int) := IntWalk.i64_in _ (by omega)
            go_wp2_with fail
            go_meet
            case rel => exact ⟨O - L, by congr 1; omega, by have := HI.out; omega, if_pos hOL, HU2.out⟩
          · have hOLI : ¬ (L : Int) ≤ (O : Int) := by omega
            go_wp2_with fail
            go_meet
            case rel => exact ⟨O, rfl, by omega, if_neg hOL, HU2.out⟩
        case rest =>
          obtain ⟨o, rfl, hoL, ho, hu⟩ := hcut
          obtain ⟨p, hp⟩ : ∃ p, p = a + o := ⟨_, rfl⟩
          have hpI : (a : Int) + (o : Int) = (p : Int) := by omega
          have hwp : IntKind.i64.wrap (p : Int) = (p : Int) := IntWalk.i64_in _ (by omega)
          have hpN : p < N := by omega
          have hpNI : (p : Int) < (N : Int) := by omega
          have hxNI : (x : Int) < (N : Int) := by omega
          have HR2 : Hid (roundsX a L M i0 n (t + 1) (xorNext r, swp e x p) = R) := by rw [hp]; exact HO.out o ho
          obtain ⟨G, hG⟩ : ∃ G : Nat → Int, ∀ t, G t = e[t]! := ⟨fun t => e[t]!, fun _ => rfl⟩
          obtain ⟨hcw, hfw⟩ := hu.1.fam hG
          obtain ⟨ux, hux⟩ := hu.1.recell x p (G p) (by omega)
          have HU : Hid (XW w wc base g cap N c Y e) := hu
          have HG : Hid (∀ t, G t = e[t]!) := hG
          clear hu hG ho hp HO HU2
          go_wp2
          go_region
          all_goals go_wp2
          go_roundg n
          case rel => exact ⟨t + 1, x + 1, xorNext r, swp e x p, by have := HT.out; omega, by have := HT.out; omega, by go_num, by rw [← HY.out]; exact HU.out.swap hcg 1 HG.out x p, HR2.out⟩
          case measure => omega

end Go.Proofs.YtafkkehcacdodaaGreat
