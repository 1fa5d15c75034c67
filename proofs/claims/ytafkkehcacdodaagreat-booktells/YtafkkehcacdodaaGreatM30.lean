/- The library's sort of subscribers: the two partitions. -/
import Derived.Test.YtafkkehcacdodaaGreatTraSortC
import Derived.Sort.LotC
import Derived.Deep.CutBlock
import Derived.Deep.CutRange
set_option maxRecDepth 100000
namespace Go.Proofs.YtafkkehcacdodaaGreat
open Go.RowKit Go.Shelf Go.Sort
attribute [local go_sem ↓] Go.wp_at_zero Go.wp_at_succ

theorem up_go (p : Int → Bool) (d : Array Int) (j i : Nat) (h : i ≤ j) (hp : p d[i]! = true) : scanUp p d j i = scanUp p d j (i + 1) := by
  rw [scanUp]; simp [h, hp]

theorem up_stop (p : Int → Bool) (d : Array Int) (j i : Nat) (h : ¬ i ≤ j ∨ p d[i]! = false) : scanUp p d j i = i := by
  rw [scanUp]
  rcases h with h | h <;> simp [h]

theorem down_go (p : Int → Bool) (d : Array Int) (i j : Nat) (hj : 0 < j) (h : i ≤ j) (hp : p d[j]! = true) : scanDown p d i j = scanDown p d i (j - 1) := by
  obtain ⟨k, rfl⟩ : ∃ k, j = k + 1 := ⟨j - 1, by omega⟩
  rw [scanDown]
  simp [h, hp]

theorem down_stop (p : Int → Bool) (d : Array Int) (i j : Nat) (h : j = 0 ∨ ¬ i ≤ j ∨ p d[j]! = false) : scanDown p d i j = j := by
  cases j with
  | zero => rfl
  | succ k =>
    rw [scanDown]
    rcases h with h | h | h
    · omega
    · simp [h]
    · simp [h]

set_option maxHeartbeats 8000000 in
theorem equal_ok (w : World) (base g cap N : Nat) (d : Array Int) (a b pivot : Nat) (h : UA w base g cap d) (hN : d.size = N) (hap : a ≤ pivot) (hpb : pivot < b) (hb : b ≤ N) (hd : N ≤ 100000) :
    Calls Tryz.prog 137 #[.slice (some ⟨g, 0, none⟩) N cap, .int .i64 a, .int .i64 b, .int .i64 pivot] w fun e w' =>
      e = .returned (.int .i64 ((partitionEqual ltU d a b pivot).1 : Int)) ∧ RwU w w' base g cap N (partitionEqual ltU d a b pivot).2 := by
  have HR0 := RwU.start h hN
  obtain ⟨R, hR⟩ : ∃ R, R = partitionEqual ltU d a b pivot := ⟨_, rfl⟩
  rw [← hR]
  have HD : Hid (partEqLoop ltU a (a + 1) (b - 1) (swp d a pivot) = R) := hR.symm
  obtain ⟨G, hG⟩ : ∃ G : Nat → Int, ∀ t, G t = d[t]! := ⟨fun t => d[t]!, fun _ => rfl⟩
  obtain ⟨hcw, hfw⟩ := HR0.fam hG
  obtain ⟨ux, hux⟩ := HR0.recell a pivot (G pivot) (by omega)
  have hu2 : Hid (RwU w ((w.setCell ⟨g, a, none⟩ (.int .u32 (G pivot))).setCell ⟨g, pivot, none⟩ (.int .u32 (G a))).drew base g cap N (swp d a pivot)) := HR0.swap 1 hG a pivot
  have haN : a < N := by omega
  have hpN : pivot < N := by omega
  have haI : (a : Int) < (N : Int) := by omega
  have hpI : (pivot : Int) < (N : Int) := by omega
  have hb1 : Hid ((b : Int) - 1 = ((b - 1 : Nat) : Int)) := by show _ = _; omega
  clear h hN hR hG HR0
  go_enter Tryz.func137, Tryz.ntmps137
  go_wp2
  go_region
  clear hcw hfw hux
  have hu3 := hu2.out
  clear hu2
  generalize ((w.setCell ⟨g, a, none⟩ (.int .u32 (G pivot))).setCell ⟨g, pivot, none⟩ (.int .u32 (G a))).drew = W1 at hu3 ⊢
  go_wp2
  rw [hb1.out]
  go_loopg [9, 10] (b - 1 + 1 - (a + 1)) (fun gk iv jv wr => ∃ (i j : Nat) (e : Array Int), gk = j + 1 - i ∧ a < i ∧ i ≤ b ∧ j < b ∧ iv = .int .i64 (i : Int) ∧ jv = .int .i64 (j : Int) ∧ RwU w wr base g cap N e ∧ Hid (partEqLoop ltU a i j e = R))
  case atStart => exact ⟨a + 1, b - 1, swp d a pivot, rfl, by omega, by omega, by omega, by go_num, rfl, hu3, HD.out⟩
  case round =>
    obtain ⟨i, j, e, hgk, hai, hib, hjb, rfl, rfl, hue, hie⟩ := hrel
    obtain ⟨G, hG⟩ : ∃ G : Nat → Int, ∀ t, G t = e[t]! := ⟨fun t => e[t]!, fun _ => rfl⟩
    have HUe : Hid (RwU w wr base g cap N e) := hue
    have HG : Hid (∀ t, G t = e[t]!) := hG
    have HGk : Hid (gk = j + 1 - i) := hgk
    clear hue hG hgk
    have hajN : a < N := by omega
    have hjN : j < N := by omega
    have hjI : (j : Int) < (N : Int) := by omega
    go_upto_block 2 with fail
    go_cut [9] from 29 to 82 (fun v wx => ∃ i2 : Nat, v = .int .i64 (i2 : Int) ∧ i ≤ i2 ∧ i2 ≤ b ∧ RwU w wx base g cap N e ∧ Hid (scanUp (fun x => !ltU e[a]! x) e j i = i2))
    case first =>
      go_wp2_with fail
      go_loopg [9] (j + 1 - i) (fun gk v wr => ∃ k : Nat, gk = j + 1 - k ∧ v = .int .i64 (k : Int) ∧ i ≤ k ∧ k ≤ b ∧ RwU w wr base g cap N e ∧ Hid (scanUp (fun x => !ltU e[a]! x) e j i = scanUp (fun x => !ltU e[a]! x) e j k))
      case atStart => exact ⟨i, rfl, rfl, Nat.le_refl _, hib, HUe.out, rfl⟩
      case round =>
        obtain ⟨k, hk, rfl, hik, hkb, hu, hs⟩ := hrel
        obtain ⟨hcw, hfw⟩ := hu.fam HG.out
        have HU : Hid (RwU w wr base g cap N e) := hu
        have HK : Hid (gk = j + 1 - k) := hk
        clear hu hk
        by_cases hkj : k ≤ j
        · have hkjI : (k : Int) ≤ (j : Int) := by omega
          have hkN : k < N := by omega
          have hkI : (k : Int) < (N : Int) := by omega
          go_wp2_with fail
          go_quiet (first | (go_at_call 136; refine Calls.quiet_of_same (less_any _ _ _)))
          go_wp2
          · have hl : (!ltU (G a) (G k)) = true := by assumption
            go_roundg (j + 1 - (k + 1))
            case rel => exact ⟨k + 1, rfl, by go_num, by omega, by omega, HU.out.drew _, by show _ = _; rw [hs.out, up_go _ _ _ _ hkj (by rw [← HG.out, ← HG.out]; exact hl)]⟩
            case measure => have := HK.out; omega
          · have hl : (!ltU (G a) (G k)) = false := by assumption
            go_meet
            case rel => exact ⟨k, rfl, hik, hkb, HU.out.drew _, by show _ = _; rw [hs.out, up_stop _ _ _ _ (.inr (by rw [← HG.out, ← HG.out]; exact hl))]⟩
        · have hkjI : decide ((k : Int) ≤ (j : Int)) = false := decide_eq_false (by omega)
          go_wp2_with fail
          go_quiet (first | (go_at_call 136; refine Calls.quiet_of_same (less_any _ _ _)))
          go_wp2
          go_meet
          case rel => exact ⟨k, rfl, hik, hkb, HU.out.drew _, by show _ = _; rw [hs.out, up_stop _ _ _ _ (.inl hkj)]⟩
    case rest =>
      obtain ⟨i2, rfl, hii, hi2b, hu, hs⟩ := hcut
      have HU2 : Hid (RwU w wc base g cap N e) := hu
      clear hu HUe
      go_upto_block 4 with fail
      go_cut [10] from 29 to 82 (fun v wx => ∃ j2 : Nat, v = .int .i64 (j2 : Int) ∧ j2 ≤ j ∧ RwU w wx base g cap N e ∧ Hid (scanDown (fun x => ltU e[a]! x) e i2 j = j2))
      case first =>
        go_wp2_with fail
        go_loopg [10] j (fun gk v wr => ∃ k : Nat, k = gk ∧ v = .int .i64 (k : Int) ∧ k ≤ j ∧ RwU w wr base g cap N e ∧ Hid (scanDown (fun x => ltU e[a]! x) e i2 j = scanDown (fun x => ltU e[a]! x) e i2 k))
        case atStart => exact ⟨j, rfl, rfl, Nat.le_refl _, HU2.out, rfl⟩
        case round =>
          obtain ⟨k, rfl, rfl, hkj, hu, hs2⟩ := hrel
          obtain ⟨hcw, hfw⟩ := hu.fam HG.out
          have HU : Hid (RwU w wr base g cap N e) := hu
          clear hu
          by_cases hki : i2 ≤ k
          · have hkiI : (i2 : Int) ≤ (k : Int) := by omega
            have hkN : k < N := by omega
            have hkI : (k : Int) < (N : Int) := by omega
            have hk0 : 0 < k := by omega
            go_wp2_with fail
            go_quiet (first | (go_at_call 136; refine Calls.quiet_of_same (less_any _ _ _)))
            go_wp2
            · have hl : ltU (G a) (G k) = true := by assumption
              go_roundg (k - 1)
              case rel => exact ⟨k - 1, rfl, by congr 1; omega, by omega, HU.out.drew _, by show _ = _; rw [hs2.out, down_go _ _ _ _ hk0 hki (by rw [← HG.out, ← HG.out]; exact hl)]⟩
              case measure => omega
            · have hl : ltU (G a) (G k) = false := by assumption
              go_meet
              case rel => exact ⟨k, rfl, hkj, HU.out.drew _, by show _ = _; rw [hs2.out, down_stop _ _ _ _ (.inr (.inr (by rw [← HG.out, ← HG.out]; exact hl)))]⟩
          · have hkiI : decide ((i2 : Int) ≤ (k : Int)) = false := decide_eq_false (by omega)
            go_wp2_with fail
            go_quiet (first | (go_at_call 136; refine Calls.quiet_of_same (less_any _ _ _)))
            go_wp2
            go_meet
            case rel => exact ⟨k, rfl, hkj, HU.out.drew _, by show _ = _; rw [hs2.out, down_stop _ _ _ _ (.inr (.inl hki))]⟩
      case rest =>
        obtain ⟨j2, rfl, hjj, hu, hs2⟩ := hcut
        have HE : Hid (R = if i2 > j2 then (i2, e) else partEqLoop ltU a (i2 + 1) (j2 - 1) (swp e i2 j2)) := by
          show _ = _
          rw [← hie.out, partEqLoop_eq, hs.out, hs2.out]
        by_cases hgt : i2 > j2
        · have hgtI : (j2 : Int) < (i2 : Int) := by omega
          have HRe : Hid (R = (i2, e)) := by show _ = _; rw [HE.out, if_pos hgt]
          have HU : Hid (RwU w wc base g cap N e) := hu
          clear HE hs hs2 hie hu hgt
          go_wp2
          go_ret
          exact ⟨by rw [HRe.out]; rfl, by rw [HRe.out]; exact HU.out⟩
        · have hle : i2 ≤ j2 := by omega
          have hleI : ¬ ((j2 : Int) < (i2 : Int)) := by omega
          have HRe : Hid (partEqLoop ltU a (i2 + 1) (j2 - 1) (swp e i2 j2) = R) := by show _ = _; rw [HE.out, if_neg hgt]
          obtain ⟨hcw, hfw⟩ := hu.fam HG.out
          obtain ⟨ux, hux⟩ := hu.recell i2 j2 (G j2) (by omega)
          have HU : Hid (RwU w wc base g cap N e) := hu
          have hiN : i2 < N := by omega
          have hj2N : j2 < N := by omega
          have hiI : (i2 : Int) < (N : Int) := by omega
          have hj2I : (j2 : Int) < (N : Int) := by omega
          clear HE hs hs2 hie hu hgt
          go_wp2
          go_region
          all_goals go_wp2
          go_roundg (j2 - 1 + 1 - (i2 + 1))
          case rel => exact ⟨i2 + 1, j2 - 1, swp e i2 j2, rfl, by omega, by omega, by omega, by go_num, by congr 1; omega, HU.out.swap 1 HG.out i2 j2, HRe.out⟩
          case measure => have := HGk.out; omega

end Go.Proofs.YtafkkehcacdodaaGreat

namespace Go.Proofs.YtafkkehcacdodaaGreat
open Go.RowKit Go.Shelf Go.Sort
attribute [local go_sem ↓] Go.wp_at_zero Go.wp_at_succ

set_option maxHeartbeats 16000000 in
theorem part_ok (w : World) (base g cap N : Nat) (d : Array Int) (a b pivot : Nat) (h : UA w base g cap d) (hN : d.size = N) (hap : a ≤ pivot) (hpb : pivot < b) (hb : b ≤ N) (hd : N ≤ 100000) :
    Calls Tryz.prog 138 #[.slice (some ⟨g, 0, none⟩) N cap, .int .i64 a, .int .i64 b, .int .i64 pivot] w fun e w' =>
      e = .returned (.tuple #[.int .i64 ((partition ltU d a b pivot).1 : Int), .bool (partition ltU d a b pivot).2.1]) ∧ RwU w w' base g cap N (partition ltU d a b pivot).2.2 := by
  have HR0 := RwU.start h hN
  obtain ⟨P, hP⟩ : ∃ P, P = partition ltU d a b pivot := ⟨_, rfl⟩
  rw [← hP]
  obtain ⟨e, he⟩ : ∃ e, e = swp d a pivot := ⟨_, rfl⟩
  have HP : Hid (P = if scanUp (fun x => ltU x e[a]!) e (b - 1) (a + 1) > scanDown (fun x => !ltU x e[a]!) e (scanUp (fun x => ltU x e[a]!) e (b - 1) (a + 1)) (b - 1) then (scanDown (fun x => !ltU x e[a]!) e (scanUp (fun x => ltU x e[a]!) e (b - 1) (a + 1)) (b - 1), true, swp e (scanDown (fun x => !ltU x e[a]!) e (scanUp (fun x => ltU x e[a]!) e (b - 1) (a + 1)) (b - 1)) a)
      else ((partLoop ltU a (scanUp (fun x => ltU x e[a]!) e (b - 1) (a + 1) + 1) (scanDown (fun x => !ltU x e[a]!) e (scanUp (fun x => ltU x e[a]!) e (b - 1) (a + 1)) (b - 1) - 1) (swp e (scanUp (fun x => ltU x e[a]!) e (b - 1) (a + 1)) (scanDown (fun x => !ltU x e[a]!) e (scanUp (fun x => ltU x e[a]!) e (b - 1) (a + 1)) (b - 1)))).1, false,
        swp (partLoop ltU a (scanUp (fun x => ltU x e[a]!) e (b - 1) (a + 1) + 1) (scanDown (fun x => !ltU x e[a]!) e (scanUp (fun x => ltU x e[a]!) e (b - 1) (a + 1)) (b - 1) - 1) (swp e (scanUp (fun x => ltU x e[a]!) e (b - 1) (a + 1)) (scanDown (fun x => !ltU x e[a]!) e (scanUp (fun x => ltU x e[a]!) e (b - 1) (a + 1)) (b - 1)))).2
          (partLoop ltU a (scanUp (fun x => ltU x e[a]!) e (b - 1) (a + 1) + 1) (scanDown (fun x => !ltU x e[a]!) e (scanUp (fun x => ltU x e[a]!) e (b - 1) (a + 1)) (b - 1) - 1) (swp e (scanUp (fun x => ltU x e[a]!) e (b - 1) (a + 1)) (scanDown (fun x => !ltU x e[a]!) e (scanUp (fun x => ltU x e[a]!) e (b - 1) (a + 1)) (b - 1)))).1 a)) := by
    show _ = _
    rw [hP, he]
    unfold partition
    simp only []
  obtain ⟨G0, hG0⟩ : ∃ G : Nat → Int, ∀ t, G t = d[t]! := ⟨fun t => d[t]!, fun _ => rfl⟩
  obtain ⟨hcw, hfw⟩ := HR0.fam hG0
  obtain ⟨ux, hux⟩ := HR0.recell a pivot (G0 pivot) (by omega)
  have hu2 : Hid (RwU w ((w.setCell ⟨g, a, none⟩ (.int .u32 (G0 pivot))).setCell ⟨g, pivot, none⟩ (.int .u32 (G0 a))).drew base g cap N e) := by rw [he]; exact HR0.swap 1 hG0 a pivot
  have haN : a < N := by omega
  have hpN : pivot < N := by omega
  have haI : (a : Int) < (N : Int) := by omega
  have hpI : (pivot : Int) < (N : Int) := by omega
  clear h hN hP hG0 HR0 he
  go_enter Tryz.func138, Tryz.ntmps138
  go_wp2
  go_region
  clear hcw hfw hux
  have HU1 := hu2
  clear hu2
  generalize ((w.setCell ⟨g, a, none⟩ (.int .u32 (G0 pivot))).setCell ⟨g, pivot, none⟩ (.int .u32 (G0 a))).drew = W1 at HU1 ⊢
  obtain ⟨i, hi⟩ : ∃ i, i = a + 1 := ⟨_, rfl⟩
  obtain ⟨j, hj⟩ : ∃ j, j = b - 1 := ⟨_, rfl⟩
  rw [← hi, ← hj] at HP
  have hiI : (a : Int) + 1 = (i : Int) := by omega
  have hjI : (b : Int) - 1 = (j : Int) := by omega
  have hai : a < i := by omega
  have hib : i ≤ b := by omega
  have hjb : j < b := by omega
  clear hi hj
  obtain ⟨G, hG⟩ : ∃ G : Nat → Int, ∀ t, G t = e[t]! := ⟨fun t => e[t]!, fun _ => rfl⟩
  have HG : Hid (∀ t, G t = e[t]!) := hG
  clear hG
  go_upto_block 0 with fail
  go_cut [10] from 30 to 45 (fun v wx => ∃ i2 : Nat, v = .int .i64 (i2 : Int) ∧ i ≤ i2 ∧ i2 ≤ b ∧ RwU w wx base g cap N e ∧ Hid (scanUp (fun x => ltU x e[a]!) e j i = i2))
  case first =>
    go_wp2_with fail
    go_loopg [10] (j + 1 - i) (fun gk v wr => ∃ k : Nat, gk = j + 1 - k ∧ v = .int .i64 (k : Int) ∧ i ≤ k ∧ k ≤ b ∧ RwU w wr base g cap N e ∧ Hid (scanUp (fun x => ltU x e[a]!) e j i = scanUp (fun x => ltU x e[a]!) e j k))
    case atStart => exact ⟨i, rfl, rfl, Nat.le_refl _, by omega, HU1.out, rfl⟩
    case round =>
      obtain ⟨k, hk, rfl, hik, hkb, hu, hs⟩ := hrel
      obtain ⟨hcw, hfw⟩ := hu.fam HG.out
      have HU : Hid (RwU w wr base g cap N e) := hu
      have HK : Hid (gk = j + 1 - k) := hk
      clear hu hk
      by_cases hkj : k ≤ j
      · have hkjI : (k : Int) ≤ (j : Int) := by omega
        have hkN : k < N := by omega
        have hkI : (k : Int) < (N : Int) := by omega
        go_wp2_with fail
        go_quiet (first | (go_at_call 136; refine Calls.quiet_of_same (less_any _ _ _)))
        go_wp2
        · have hl : ltU (G k) (G a) = true := by assumption
          go_roundg (j + 1 - (k + 1))
          case rel => exact ⟨k + 1, rfl, by go_num, by omega, by omega, HU.out.drew _, by show _ = _; rw [hs.out, up_go _ _ _ _ hkj (by rw [← HG.out, ← HG.out]; exact hl)]⟩
          case measure => have := HK.out; omega
        · have hl : ltU (G k) (G a) = false := by assumption
          go_meet
          case rel => exact ⟨k, rfl, hik, hkb, HU.out.drew _, by show _ = _; rw [hs.out, up_stop _ _ _ _ (.inr (by rw [← HG.out, ← HG.out]; exact hl))]⟩
      · have hkjI : decide ((k : Int) ≤ (j : Int)) = false := decide_eq_false (by omega)
        go_wp2_with fail
        go_quiet (first | (go_at_call 136; refine Calls.quiet_of_same (less_any _ _ _)))
        go_wp2
        go_meet
        case rel => exact ⟨k, rfl, hik, hkb, HU.out.drew _, by show _ = _; rw [hs.out, up_stop _ _ _ _ (.inl hkj)]⟩
  case rest =>
    obtain ⟨i2, rfl, hii, hi2b, hu, hs⟩ := hcut
    have HU2 : Hid (RwU w wc base g cap N e) := hu
    clear hu HU1
    go_upto_block 2 with fail
    go_cut [11] from 46 to 62 (fun v wx => ∃ j2 : Nat, v = .int .i64 (j2 : Int) ∧ j2 ≤ j ∧ RwU w wx base g cap N e ∧ Hid (scanDown (fun x => !ltU x e[a]!) e i2 j = j2))
    case first =>
      go_wp2_with fail
      go_loopg [11] j (fun gk v wr => ∃ k : Nat, k = gk ∧ v = .int .i64 (k : Int) ∧ k ≤ j ∧ RwU w wr base g cap N e ∧ Hid (scanDown (fun x => !ltU x e[a]!) e i2 j = scanDown (fun x => !ltU x e[a]!) e i2 k))
      case atStart => exact ⟨j, rfl, rfl, Nat.le_refl _, HU2.out, rfl⟩
      case round =>
        obtain ⟨k, rfl, rfl, hkj, hu, hs2⟩ := hrel
        obtain ⟨hcw, hfw⟩ := hu.fam HG.out
        have HU : Hid (RwU w wr base g cap N e) := hu
        clear hu
        by_cases hki : i2 ≤ k
        · have hkiI : (i2 : Int) ≤ (k : Int) := by omega
          have hkN : k < N := by omega
          have hkI : (k : Int) < (N : Int) := by omega
          have hk0 : 0 < k := by omega
          go_wp2_with fail
          go_quiet (first | (go_at_call 136; refine Calls.quiet_of_same (less_any _ _ _)))
          go_wp2
          · have hl : (!ltU (G k) (G a)) = true := by assumption
            go_roundg (k - 1)
            case rel => exact ⟨k - 1, rfl, by congr 1; omega, by omega, HU.out.drew _, by show _ = _; rw [hs2.out, down_go _ _ _ _ hk0 hki (by rw [← HG.out, ← HG.out]; exact hl)]⟩
            case measure => omega
          · have hl : (!ltU (G k) (G a)) = false := by assumption
            go_meet
            case rel => exact ⟨k, rfl, hkj, HU.out.drew _, by show _ = _; rw [hs2.out, down_stop _ _ _ _ (.inr (.inr (by rw [← HG.out, ← HG.out]; exact hl)))]⟩
        · have hkiI : decide ((i2 : Int) ≤ (k : Int)) = false := decide_eq_false (by omega)
          go_wp2_with fail
          go_quiet (first | (go_at_call 136; refine Calls.quiet_of_same (less_any _ _ _)))
          go_wp2
          go_meet
          case rel => exact ⟨k, rfl, hkj, HU.out.drew _, by show _ = _; rw [hs2.out, down_stop _ _ _ _ (.inr (.inl hki))]⟩
    case rest =>
      obtain ⟨j2, rfl, hjj, hu, hs2⟩ := hcut
      rw [hs.out, hs2.out] at HP
      have hP := HP.out
      clear HP hs hs2
      obtain ⟨hcw, hfw⟩ := hu.fam HG.out
      have HU : Hid (RwU w wc base g cap N e) := hu
      have hj2N : j2 < N := by omega
      have hj2I : (j2 : Int) < (N : Int) := by omega
      by_cases hgt : i2 > j2
      · have hgtI : (j2 : Int) < (i2 : Int) := by omega
        have HRe : Hid (P = (j2, true, swp e j2 a)) := by show _ = _; rw [hP, if_pos hgt]
        obtain ⟨ux, hux⟩ := hu.recell j2 a (G a) (by omega)
        clear hP hu hgt
        go_wp2
        go_region
        all_goals go_wp2
        go_ret2
        exact ⟨by rw [HRe.out]; rfl, by rw [HRe.out]; exact HU.out.swap 1 HG.out j2 a⟩
      · have hgtI : ¬ ((j2 : Int) < (i2 : Int)) := by omega
        have hiN : i2 < N := by omega
        have hi2I : (i2 : Int) < (N : Int) := by omega
        obtain ⟨ux, hux⟩ := hu.recell i2 j2 (G j2) (by omega)
        obtain ⟨R, hR⟩ : ∃ R, R = partLoop ltU a (i2 + 1) (j2 - 1) (swp e i2 j2) := ⟨_, rfl⟩
        have HRe : Hid (P = (R.1, false, swp R.2 R.1 a)) := by show _ = _; rw [hP, if_neg hgt, ← hR]
        have HR : Hid (partLoop ltU a (i2 + 1) (j2 - 1) (swp e i2 j2) = R) := hR.symm
        clear hP hu hR
        go_wp2
        go_region
        clear hcw hfw hux
        have hu3 : RwU w ((wc.setCell ⟨g, i2, none⟩ (.int .u32 (G j2))).setCell ⟨g, j2, none⟩ (.int .u32 (G i2))).drew base g cap N (swp e i2 j2) := HU.out.swap 1 HG.out i2 j2
        generalize ((wc.setCell ⟨g, i2, none⟩ (.int .u32 (G j2))).setCell ⟨g, j2, none⟩ (.int .u32 (G i2))).drew = W3 at hu3 ⊢
        have HU3 : Hid (RwU w W3 base g cap N (swp e i2 j2)) := hu3
        clear hu3 HU2 HU
        go_upto_block 4 with fail
        go_cut [10, 11] from 99 to 152 (fun iv jv wx => ∃ (k : Nat) (e : Array Int), jv = .int .i64 (k : Int) ∧ k < b ∧ R = (k, e) ∧ RwU w wx base g cap N e)
        case first =>
          go_wp2_with fail
          go_loopg [10, 11] (j2 - 1 + 1 - (i2 + 1)) (fun gk iv jv wr => ∃ (i j : Nat) (e : Array Int), gk = j + 1 - i ∧ a < i ∧ i ≤ b ∧ j < b ∧ iv = .int .i64 (i : Int) ∧ jv = .int .i64 (j : Int) ∧ RwU w wr base g cap N e ∧ Hid (partLoop ltU a i j e = R))
          case atStart => exact ⟨i2 + 1, j2 - 1, _, rfl, by omega, by omega, by omega, by go_num, by congr 1; omega, HU3.out, HR.out⟩
          case round =>
            clear HU3 HR HG hgtI hgt hiN hi2I hj2N hj2I hi2b hii hjj HRe hiI hjI hai hib hjb
            obtain ⟨i, j, e, hgk, hai, hib, hjb, rfl, rfl, hue, hie⟩ := hrel
            obtain ⟨G, hG⟩ : ∃ G : Nat → Int, ∀ t, G t = e[t]! := ⟨fun t => e[t]!, fun _ => rfl⟩
            have HUe : Hid (RwU w wr base g cap N e) := hue
            have HG : Hid (∀ t, G t = e[t]!) := hG
            have HGk : Hid (gk = j + 1 - i) := hgk
            clear hue hG hgk
            go_upto_block 6 with fail
            go_cut [10] from 99 to 152 (fun v wx => ∃ i2 : Nat, v = .int .i64 (i2 : Int) ∧ i ≤ i2 ∧ i2 ≤ b ∧ RwU w wx base g cap N e ∧ Hid (scanUp (fun x => ltU x e[a]!) e j i = i2))
            case first =>
              go_wp2_with fail
              go_loopg [10] (j + 1 - i) (fun gk v wr => ∃ k : Nat, gk = j + 1 - k ∧ v = .int .i64 (k : Int) ∧ i ≤ k ∧ k ≤ b ∧ RwU w wr base g cap N e ∧ Hid (scanUp (fun x => ltU x e[a]!) e j i = scanUp (fun x => ltU x e[a]!) e j k))
              case atStart => exact ⟨i, rfl, rfl, Nat.le_refl _, by omega, HUe.out, rfl⟩
              case round =>
                obtain ⟨k, hk, rfl, hik, hkb, hu, hs⟩ := hrel
                obtain ⟨hcw, hfw⟩ := hu.fam HG.out
                have HU : Hid (RwU w wr base g cap N e) := hu
                have HK : Hid (gk = j + 1 - k) := hk
                clear hu hk
                by_cases hkj : k ≤ j
                · have hkjI : (k : Int) ≤ (j : Int) := by omega
                  have hkN : k < N := by omega
                  have hkI : (k : Int) < (N : Int) := by omega
                  go_wp2_with fail
                  go_quiet (first | (go_at_call 136; refine Calls.quiet_of_same (less_any _ _ _)))
                  go_wp2
                  · have hl : ltU (G k) (G a) = true := by assumption
                    go_roundg (j + 1 - (k + 1))
                    case rel => exact ⟨k + 1, rfl, by go_num, by omega, by omega, HU.out.drew _, by show _ = _; rw [hs.out, up_go _ _ _ _ hkj (by rw [← HG.out, ← HG.out]; exact hl)]⟩
                    case measure => have := HK.out; omega
                  · have hl : ltU (G k) (G a) = false := by assumption
                    go_meet
                    case rel => exact ⟨k, rfl, hik, hkb, HU.out.drew _, by show _ = _; rw [hs.out, up_stop _ _ _ _ (.inr (by rw [← HG.out, ← HG.out]; exact hl))]⟩
                · have hkjI : decide ((k : Int) ≤ (j : Int)) = false := decide_eq_false (by omega)
                  go_wp2_with fail
                  go_quiet (first | (go_at_call 136; refine Calls.quiet_of_same (less_any _ _ _)))
                  go_wp2
                  go_meet
                  case rel => exact ⟨k, rfl, hik, hkb, HU.out.drew _, by show _ = _; rw [hs.out, up_stop _ _ _ _ (.inl hkj)]⟩
            case rest =>
              obtain ⟨i3, rfl, hii, hi2b, hu, hs⟩ := hcut
              have HU2 : Hid (RwU w wc base g cap N e) := hu
              clear hu HUe
              go_upto_block 8 with fail
              go_cut [11] from 99 to 152 (fun v wx => ∃ j2 : Nat, v = .int .i64 (j2 : Int) ∧ j2 ≤ j ∧ RwU w wx base g cap N e ∧ Hid (scanDown (fun x => !ltU x e[a]!) e i3 j = j2))
              case first =>
                go_wp2_with fail
                go_loopg [11] j (fun gk v wr => ∃ k : Nat, k = gk ∧ v = .int .i64 (k : Int) ∧ k ≤ j ∧ RwU w wr base g cap N e ∧ Hid (scanDown (fun x => !ltU x e[a]!) e i3 j = scanDown (fun x => !ltU x e[a]!) e i3 k))
                case atStart => exact ⟨j, rfl, rfl, Nat.le_refl _, HU2.out, rfl⟩
                case round =>
                  obtain ⟨k, rfl, rfl, hkj, hu, hs2⟩ := hrel
                  obtain ⟨hcw, hfw⟩ := hu.fam HG.out
                  have HU : Hid (RwU w wr base g cap N e) := hu
                  clear hu
                  by_cases hki : i3 ≤ k
                  · have hkiI : (i3 : Int) ≤ (k : Int) := by omega
                    have hkN : k < N := by omega
                    have hkI : (k : Int) < (N : Int) := by omega
                    have hk0 : 0 < k := by omega
                    go_wp2_with fail
                    go_quiet (first | (go_at_call 136; refine Calls.quiet_of_same (less_any _ _ _)))
                    go_wp2
                    · have hl : (!ltU (G k) (G a)) = true := by assumption
                      go_roundg (k - 1)
                      case rel => exact ⟨k - 1, rfl, by congr 1; omega, by omega, HU.out.drew _, by show _ = _; rw [hs2.out, down_go _ _ _ _ hk0 hki (by rw [← HG.out, ← HG.out]; exact hl)]⟩
                      case measure => omega
                    · have hl : (!ltU (G k) (G a)) = false := by assumption
                      go_meet
                      case rel => exact ⟨k, rfl, hkj, HU.out.drew _, by show _ = _; rw [hs2.out, down_stop _ _ _ _ (.inr (.inr (by rw [← HG.out, ← HG.out]; exact hl)))]⟩
                  · have hkiI : decide ((i3 : Int) ≤ (k : Int)) = false := decide_eq_false (by omega)
                    go_wp2_with fail
                    go_quiet (first | (go_at_call 136; refine Calls.quiet_of_same (less_any _ _ _)))
                    go_wp2
                    go_meet
                    case rel => exact ⟨k, rfl, hkj, HU.out.drew _, by show _ = _; rw [hs2.out, down_stop _ _ _ _ (.inr (.inl hki))]⟩
              case rest =>
                obtain ⟨j3, rfl, hjj, hu, hs2⟩ := hcut
                have HE : Hid (R = if i3 > j3 then (j3, e) else partLoop ltU a (i3 + 1) (j3 - 1) (swp e i3 j3)) := by
                  show _ = _
                  rw [← hie.out, partLoop_eq, hs.out, hs2.out]
                have HU : Hid (RwU w wc base g cap N e) := hu
                by_cases hgt : i3 > j3
                · have hgtI : (j3 : Int) < (i3 : Int) := by omega
                  have HRk : Hid (R = (j3, e)) := by show _ = _; rw [HE.out, if_pos hgt]
                  clear HE hs hs2 hie hu hgt
                  go_wp2
                  go_meet
                  case rel => exact ⟨j3, e, rfl, by omega, HRk.out, HU.out⟩
                · have hle : i3 ≤ j3 := by omega
                  have hleI : ¬ ((j3 : Int) < (i3 : Int)) := by omega
                  have HRk : Hid (partLoop ltU a (i3 + 1) (j3 - 1) (swp e i3 j3) = R) := by show _ = _; rw [HE.out, if_neg hgt]
                  obtain ⟨hcw, hfw⟩ := hu.fam HG.out
                  obtain ⟨ux, hux⟩ := hu.recell i3 j3 (G j3) (by omega)
                  have hiN : i3 < N := by omega
                  have hj2N : j3 < N := by omega
                  have hiI : (i3 : Int) < (N : Int) := by omega
                  have hj2I : (j3 : Int) < (N : Int) := by omega
                  clear HE hs hs2 hie hu hgt
                  go_wp2
                  go_region
                  all_goals go_wp2
                  go_roundg (j3 - 1 + 1 - (i3 + 1))
                  case rel => exact ⟨i3 + 1, j3 - 1, swp e i3 j3, rfl, by omega, by omega, by omega, by go_num, by congr 1; omega, HU.out.swap 1 HG.out i3 j3, HRk.out⟩
                  case measure => have := HGk.out; omega
        case rest =>
          obtain ⟨k, e3, rfl, hkb, hRk, hu⟩ := hcut
          obtain ⟨G3, hG3⟩ : ∃ G : Nat → Int, ∀ t, G t = e3[t]! := ⟨fun t => e3[t]!, fun _ => rfl⟩
          obtain ⟨hcw, hfw⟩ := hu.fam hG3
          obtain ⟨ux, hux⟩ := hu.recell k a (G3 a) (by omega)
          have HU : Hid (RwU w wc base g cap N e3) := hu
          have HG3 : Hid (∀ t, G3 t = e3[t]!) := hG3
          have HRk : Hid (R = (k, e3)) := hRk
          have hkN : k < N := by omega
          have hkI : (k : Int) < (N : Int) := by omega
          clear hu hG3 hRk
          go_wp2
          go_region
          all_goals go_wp2
          go_ret2
          exact ⟨by rw [HRe.out, HRk.out]; rfl, by rw [HRe.out, HRk.out]; exact HU.out.swap 1 HG3.out k a⟩

end Go.Proofs.YtafkkehcacdodaaGreat
