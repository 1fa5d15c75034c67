/- The library's sort of subscribers: the insertion sort that gives up. -/
import Derived.Test.YtafkkehcacdodaaGreatM28
import Derived.Sort.LotA
import Derived.Deep.CutBlock
import Derived.Deep.CutRange
set_option maxRecDepth 100000
namespace Go.Proofs.YtafkkehcacdodaaGreat
open Go.RowKit Go.Shelf Go.Sort
attribute [local go_sem ↓] Go.wp_at_zero Go.wp_at_succ

theorem scan_go (d : Array Int) (b i : Nat) (h : i < b) (hl : ltU d[i]! d[i - 1]! = false) : scanSorted ltU d b i = scanSorted ltU d b (i + 1) := by
  rw [scanSorted, if_pos (by simp [h, hl])]

theorem scan_stop (d : Array Int) (b i : Nat) (h : ¬ i < b ∨ ltU d[i]! d[i - 1]! = true) : scanSorted ltU d b i = i := by
  rw [scanSorted, if_neg]
  rcases h with h | h <;> simp [h]

theorem sink_go (j : Nat) (d : Array Int) (hj : 1 ≤ j) (hl : ltU d[j]! d[j - 1]! = true) : shiftDown ltU j d = shiftDown ltU (j - 1) (swp d j (j - 1)) := by
  obtain ⟨k, rfl⟩ : ∃ k, j = k + 1 := ⟨j - 1, by omega⟩
  rw [Nat.add_sub_cancel] at hl ⊢
  rw [shiftDown, if_neg (by simp [hl])]

theorem sink_stop (j : Nat) (d : Array Int) (h : j = 0 ∨ ltU d[j]! d[j - 1]! = false) : shiftDown ltU j d = d := by
  match j, h with
  | 0, _ => rfl
  | k + 1, h =>
    rcases h with h | h
    · exact absurd h (by omega)
    · rw [Nat.add_sub_cancel] at h
      rw [shiftDown, if_pos (by simp [h])]

theorem rise_go (b j : Nat) (d : Array Int) (hj : j < b) (hl : ltU d[j]! d[j - 1]! = true) : shiftUp ltU b j d = shiftUp ltU b (j + 1) (swp d j (j - 1)) := by
  rw [shiftUp, if_pos hj, if_neg (by simp [hl])]

theorem rise_stop (b j : Nat) (d : Array Int) (h : ¬ j < b ∨ ltU d[j]! d[j - 1]! = false) : shiftUp ltU b j d = d := by
  rw [shiftUp]
  by_cases hj : j < b
  · rw [if_pos hj, if_pos]
    rcases h with h | h
    · exact absurd hj h
    · simp [h]
  · rw [if_neg hj]

set_option maxHeartbeats 16000000 in
theorem partial_ok (w : World) (base g cap N : Nat) (d : Array Int) (a b : Nat) (h : UA w base g cap d) (hN : d.size = N) (hab : a < b) (hb : b ≤ N) (hd : N ≤ 100000) :
    Calls Tryz.prog 135 #[.slice (some ⟨g, 0, none⟩) N cap, .int .i64 a, .int .i64 b] w fun e w' =>
      e = .returned (.bool (partialInsertionSort ltU d a b).2) ∧ RwU w w' base g cap N (partialInsertionSort ltU d a b).1 := by
  obtain ⟨R, hR⟩ : ∃ R, R = partialInsertionSort ltU d a b := ⟨_, rfl⟩
  rw [← hR]
  have HR0 : Hid (RwU w w base g cap N d) := RwU.start h hN
  have HO0 : Hid (partialIns ltU a b 5 (a + 1) d = R) := hR.symm
  clear h hN hR
  go_enter Tryz.func135, Tryz.ntmps135
  go_wp2
  go_loopg [7, 8] 5 (fun gk iv sv wr => ∃ (i s : Nat) (d' : Array Int), s + gk = 5 ∧ iv = .int .i64 (i : Int) ∧ sv = .int .i64 (s : Int) ∧ a < i ∧ i ≤ b ∧ RwU w wr base g cap N d' ∧ Hid (partialIns ltU a b gk i d' = R))
  case atStart => exact ⟨a + 1, 0, d, rfl, by go_num, rfl, by omega, by omega, HR0.out, HO0.out⟩
  case round =>
    clear HR0 HO0
    obtain ⟨i, s, d', hsg, rfl, rfl, hai, hib, hu, ho⟩ := hrel
    by_cases hs : s < 5
    case neg =>
      have hs5 : s = 5 := by omega
      obtain rfl : gk = 0 := by omega
      subst hs5
      have HE : Hid (R = (d', false)) := ho.out.symm
      have HU : Hid (RwU w wr base g cap N d') := hu
      clear ho hu
      go_wp2
      go_ret
      exact ⟨by rw [HE.out]; rfl, by rw [HE.out]; exact HU.out⟩
    case pos =>
      obtain ⟨n, rfl⟩ : ∃ n, gk = n + 1 := ⟨gk - 1, by omega⟩
      obtain ⟨G, hG⟩ : ∃ G : Nat → Int, ∀ t, G t = d'[t]! := ⟨fun t => d'[t]!, fun _ => rfl⟩
      have HU : Hid (RwU w wr base g cap N d') := hu
      have HG : Hid (∀ t, G t = d'[t]!) := hG
      have HSG : Hid (s + (n + 1) = 5) := hsg
      have HO : Hid ((if scanSorted ltU d' b i = b then (d', true) else if b - a < 50 then (d', false) else
          partialIns ltU a b n (scanSorted ltU d' b i) (fixUp ltU b (scanSorted ltU d' b i) (fixDown ltU a (scanSorted ltU d' b i) (swp d' (scanSorted ltU d' b i) (scanSorted ltU d' b i - 1))))) = R) := by
        show _ = _
        rw [← ho.out, partialIns_succ]
      have hsI : (s : Int) < 5 := by omega
      clear hu hG ho hsg
      go_upto_block 2 with fail
      go_cut [7] from 13 to 132 (fun v wx => ∃ k : Nat, v = .int .i64 (k : Int) ∧ i ≤ k ∧ k ≤ b ∧ RwU w wx base g cap N d' ∧ Hid (scanSorted ltU d' b i = k))
      case first =>
        go_wp2_with fail
        go_loopg [7] (b - i) (fun gk v wr => ∃ k : Nat, gk = b - k ∧ v = .int .i64 (k : Int) ∧ i ≤ k ∧ k ≤ b ∧ RwU w wr base g cap N d' ∧ Hid (scanSorted ltU d' b i = scanSorted ltU d' b k))
        case atStart => exact ⟨i, rfl, rfl, Nat.le_refl _, hib, HU.out, rfl⟩
        case round =>
          obtain ⟨k, hk, rfl, hik, hkb, hu, hs2⟩ := hrel
          obtain ⟨hcw, hfw⟩ := hu.fam HG.out
          have HU2 : Hid (RwU w wr base g cap N d') := hu
          have HK : Hid (gk = b - k) := hk
          clear hu hk
          by_cases hkj : k < b
          · have hkjI : (k : Int) < (b : Int) := by omega
            have hkN : k < N := by omega
            have hkI : (k : Int) < (N : Int) := by omega
            have hk1 : ((k : Int) - 1).toNat = k - 1 := by omega
            have hk0 : (0 : Int) ≤ (k : Int) - 1 := by omega
            have hk2 : (k : Int) - 1 < (N : Int) := by omega
            have hkn : k - 1 < N := by omega
            go_wp2_with fail
            go_quiet (first | (go_at_call 136; refine Calls.quiet_of_same (less_any _ _ _)))
            go_wp2
            · have hl : (!ltU (G k) (G (k - 1))) = true := by assumption
              go_roundg (b - (k + 1))
              case rel => exact ⟨k + 1, rfl, by go_num, by omega, by omega, HU2.out.drew _, by show _ = _; rw [hs2.out, scan_go _ _ _ hkj (by rw [← HG.out, ← HG.out]; simpa using hl)]⟩
              case measure => have := HK.out; omega
            · have hl : (!ltU (G k) (G (k - 1))) = false := by assumption
              go_meet
              case rel => exact ⟨k, rfl, hik, hkb, HU2.out.drew _, by show _ = _; rw [hs2.out, scan_stop _ _ _ (.inr (by rw [← HG.out, ← HG.out]; simpa using hl))]⟩
          · have hkjI : decide ((k : Int) < (b : Int)) = false := decide_eq_false (by omega)
            go_wp2_with fail
            go_quiet (first | (go_at_call 136; refine Calls.quiet_of_same (less_any _ _ _)))
            go_wp2
            go_meet
            case rel => exact ⟨k, rfl, hik, hkb, HU2.out.drew _, by show _ = _; rw [hs2.out, scan_stop _ _ _ (.inl hkj)]⟩
      case rest =>
        obtain ⟨k, rfl, hik, hkb, hu, hs2⟩ := hcut
        have HO2 := HO.out
        rw [hs2.out] at HO2
        have HU2 : Hid (RwU w wc base g cap N d') := hu
        clear HO hs2 HU
        by_cases hkeq : k = b
        · have HE : Hid (R = (d', true)) := by show _ = _; rw [← HO2, if_pos hkeq]
          have hkI : (k : Int) = (b : Int) := by omega
          clear HO2 hu hkeq
          go_wp2
          go_ret
          exact ⟨by rw [HE.out]; rfl, by rw [HE.out]; exact HU2.out⟩
        · rw [if_neg hkeq] at HO2
          have hkI : ¬ (k : Int) = (b : Int) := by omega
          by_cases h50 : b - a < 50
          · have HE : Hid (R = (d', false)) := by show _ = _; rw [← HO2, if_pos h50]
            have h50I : (b : Int) - (a : Int) < 50 := by omega
            clear HO2 hu hkeq
            go_wp2
            go_ret
            exact ⟨by rw [HE.out]; rfl, by rw [HE.out]; exact HU2.out⟩
          · rw [if_neg h50] at HO2
            have HO3 : Hid (partialIns ltU a b n k (fixUp ltU b k (fixDown ltU a k (swp d' k (k - 1)))) = R) := HO2
            have h50I : ¬ ((b : Int) - (a : Int) < 50) := by omega
            obtain ⟨hcw, hfw⟩ := hu.fam HG.out
            obtain ⟨ux, hux⟩ := hu.recell k (k - 1) (G (k - 1)) (by omega)
            have hkN : k < N := by omega
            have hkI : (k : Int) < (N : Int) := by omega
            have hk1 : ((k : Int) - 1).toNat = k - 1 := by omega
            have hk0 : (0 : Int) ≤ (k : Int) - 1 := by omega
            have hk2 : (k : Int) - 1 < (N : Int) := by omega
            have hkn : k - 1 < N := by omega
            clear HO2 hu hkeq h50
            go_wp2
            go_region
            clear hcw hfw hux
            have hu3 : RwU w ((wc.setCell ⟨g, k, none⟩ (.int .u32 (G (k - 1)))).setCell ⟨g, k - 1, none⟩ (.int .u32 (G k))).drew base g cap N (swp d' k (k - 1)) := HU2.out.swap 1 HG.out k (k - 1)
            generalize ((wc.setCell ⟨g, k, none⟩ (.int .u32 (G (k - 1)))).setCell ⟨g, k - 1, none⟩ (.int .u32 (G k))).drew = W3 at hu3 ⊢
            generalize swp d' k (k - 1) = d2 at hu3 HO3
            have HU3 : Hid (RwU w W3 base g cap N d2) := hu3
            clear hu3 HU2 HG
            have hwka : IntKind.i64.wrap ((k : Int) - (a : Int)) = (k : Int) - (a : Int) := IntWalk.i64_in _ (by omega)
            have hwbk : IntKind.i64.wrap ((b : Int) - (k : Int)) = (b : Int) - (k : Int) := IntWalk.i64_in _ (by omega)
            go_upto_if 61 with fail
            go_cut [] from 13 to 132 (fun wx => ∃ e : Array Int, RwU w wx base g cap N e ∧ Hid (partialIns ltU a b n k (fixUp ltU b k e) = R))
            case first =>
              by_cases hka : k - a ≥ 2
              · have hkaI : (2 : Int) ≤ (k : Int) - (a : Int) := by omega
                have HO4 : Hid (partialIns ltU a b n k (fixUp ltU b k (shiftDown ltU (k - 1) d2)) = R) := by
                  show _ = _
                  rw [← HO3.out]
                  unfold fixDown
                  rw [if_pos hka]
                clear HO3
                go_wp2_with fail
                go_loopg [9] (k - 1) (fun gk v wr => ∃ (j : Nat) (e : Array Int), j = gk ∧ v = .int .i64 (j : Int) ∧ j ≤ k - 1 ∧ RwU w wr base g cap N e ∧ Hid (partialIns ltU a b n k (fixUp ltU b k (shiftDown ltU j e)) = R))
                case atStart => exact ⟨k - 1, d2, rfl, by congr 1; omega, Nat.le_refl _, HU3.out, HO4.out⟩
                case round =>
                  clear HU3 HO4
                  obtain ⟨j, e, rfl, rfl, hjk, hue, hje⟩ := hrel
                  obtain ⟨G, hG⟩ : ∃ G : Nat → Int, ∀ t, G t = e[t]! := ⟨fun t => e[t]!, fun _ => rfl⟩
                  have HU : Hid (RwU w wr base g cap N e) := hue
                  have HG : Hid (∀ t, G t = e[t]!) := hG
                  by_cases hj1 : 1 ≤ j
                  · have hj1I : (1 : Int) ≤ (j : Int) := by omega
                    obtain ⟨hcw, hfw⟩ := hue.fam hG
                    obtain ⟨ux, hux⟩ := hue.recell j (j - 1) (G (j - 1)) (by omega)
                    have hjN : j < N := by omega
                    have hjI : (j : Int) < (N : Int) := by omega
                    have hjt : ((j : Int) - 1).toNat = j - 1 := by omega
                    have hj0 : (0 : Int) ≤ (j : Int) - 1 := by omega
                    have hj2 : (j : Int) - 1 < (N : Int) := by omega
                    have hjn : j - 1 < N := by omega
                    clear hue hG
                    go_wp2_with fail
                    go_quiet (first | (go_at_call 136; refine Calls.quiet_of_same (less_any _ _ _)))
                    have HW : Hid (RwU w (wr.drewN nq) base g cap N e) := HU.out.drew nq
                    obtain ⟨hcw, hfw⟩ := HW.out.fam HG.out
                    obtain ⟨ux, hux⟩ := HW.out.recell j (j - 1) (G (j - 1)) (by omega)
                    generalize wr.drewN nq = W4 at HW hcw hfw hux ⊢
                    clear nq HU
                    go_wp2
                    · have hl : (!ltU (G j) (G (j - 1))) = true := by assumption
                      go_meet
                      case rel => exact ⟨e, HW.out, by show _ = _; rw [← hje.out, sink_stop _ _ (.inr (by rw [← HG.out, ← HG.out]; simpa using hl))]⟩
                    · have hl : (!ltU (G j) (G (j - 1))) = false := by assumption
                      have HJ : Hid (partialIns ltU a b n k (fixUp ltU b k (shiftDown ltU (j - 1) (swp e j (j - 1)))) = R) := by show _ = _; rw [← hje.out, sink_go _ _ hj1 (by rw [← HG.out, ← HG.out]; simpa using hl)]
                      clear hje hl
                      go_region
                      all_goals go_wp2
                      go_roundg (j - 1)
                      case rel => exact ⟨j - 1, swp e j (j - 1), rfl, by congr 1; omega, by omega, HW.out.swap 1 HG.out j (j - 1), HJ.out⟩
                      case measure => omega
                  · have hj1I : ¬ (1 : Int) ≤ (j : Int) := by omega
                    clear hG hue
                    go_wp2
                    go_meet
                    case rel => exact ⟨e, HU.out, by show _ = _; rw [← hje.out, sink_stop _ _ (.inl (by omega))]⟩
              · have hkaI : ¬ (2 : Int) ≤ (k : Int) - (a : Int) := by omega
                have HO4 : Hid (partialIns ltU a b n k (fixUp ltU b k d2) = R) := by
                  show _ = _
                  rw [← HO3.out]
                  unfold fixDown
                  rw [if_neg hka]
                clear HO3
                go_wp2_with fail
                go_meet
                case rel => exact ⟨d2, HU3.out, HO4.out⟩
            case rest =>
              clear HU3 HO3
              obtain ⟨d3, hu4, ho4⟩ := hcut
              have HU4 : Hid (RwU w wc base g cap N d3) := hu4
              clear hu4
              go_upto_if 98 with fail
              by_cases hbk : b - k ≥ 2
              · have hbkI : (2 : Int) ≤ (b : Int) - (k : Int) := by omega
                have HO4 : Hid (partialIns ltU a b n k (shiftUp ltU b (k + 1) d3) = R) := by
                  show _ = _
                  rw [← ho4.out]
                  unfold fixUp
                  rw [if_pos hbk]
                clear ho4
                go_wp2_with fail
                go_loopg [10] (b - (k + 1)) (fun gk v wr => ∃ (j : Nat) (e : Array Int), gk = b - j ∧ v = .int .i64 (j : Int) ∧ k + 1 ≤ j ∧ j ≤ b ∧ RwU w wr base g cap N e ∧ Hid (partialIns ltU a b n k (shiftUp ltU b j e) = R))
                case atStart => exact ⟨k + 1, d3, rfl, by go_num, Nat.le_refl _, by omega, HU4.out, HO4.out⟩
                case round =>
                  clear HU4 HO4
                  obtain ⟨j, e, hgk, rfl, hkj, hjb, hue, hje⟩ := hrel
                  obtain ⟨G, hG⟩ : ∃ G : Nat → Int, ∀ t, G t = e[t]! := ⟨fun t => e[t]!, fun _ => rfl⟩
                  have HU : Hid (RwU w wr base g cap N e) := hue
                  have HG : Hid (∀ t, G t = e[t]!) := hG
                  have HK : Hid (gk = b - j) := hgk
                  clear hgk
                  by_cases hjlt : j < b
                  · have hjltI : (j : Int) < (b : Int) := by omega
                    obtain ⟨hcw, hfw⟩ := hue.fam hG
                    have hjN : j < N := by omega
                    have hjI : (j : Int) < (N : Int) := by omega
                    have hjt : ((j : Int) - 1).toNat = j - 1 := by omega
                    have hj0 : (0 : Int) ≤ (j : Int) - 1 := by omega
                    have hj2 : (j : Int) - 1 < (N : Int) := by omega
                    have hjn : j - 1 < N := by omega
                    clear hue hG
                    go_wp2_with fail
                    go_quiet (first | (go_at_call 136; refine Calls.quiet_of_same (less_any _ _ _)))
                    have HW : Hid (RwU w (wr.drewN nq) base g cap N e) := HU.out.drew nq
                    obtain ⟨hcw, hfw⟩ := HW.out.fam HG.out
                    obtain ⟨ux, hux⟩ := HW.out.recell j (j - 1) (G (j - 1)) (by omega)
                    generalize wr.drewN nq = W4 at HW hcw hfw hux ⊢
                    clear nq HU
                    go_wp2
                    · have hl : (!ltU (G j) (G (j - 1))) = true := by assumption
                      go_roundg n
                      case rel => exact ⟨k, s + 1, e, by have := HSG.out; omega, rfl, by go_num, by omega, hkb, HW.out, by show _ = _; rw [← hje.out, rise_stop _ _ _ (.inr (by rw [← HG.out, ← HG.out]; simpa using hl))]⟩
                      case measure => omega
                    · have hl : (!ltU (G j) (G (j - 1))) = false := by assumption
                      have HJ : Hid (partialIns ltU a b n k (shiftUp ltU b (j + 1) (swp e j (j - 1))) = R) := by show _ = _; rw [← hje.out, rise_go _ _ _ hjlt (by rw [← HG.out, ← HG.out]; simpa using hl)]
                      clear hje hl
                      go_region
                      all_goals go_wp2
                      go_roundg (b - (j + 1))
                      case rel => exact ⟨j + 1, swp e j (j - 1), rfl, by go_num, by omega, by omega, HW.out.swap 1 HG.out j (j - 1), HJ.out⟩
                      case measure => have := HK.out; omega
                  · have hjltI : ¬ (j : Int) < (b : Int) := by omega
                    clear hG hue
                    go_wp2
                    go_roundg n
                    case rel => exact ⟨k, s + 1, e, by have := HSG.out; omega, rfl, by go_num, by omega, hkb, HU.out, by show _ = _; rw [← hje.out, rise_stop _ _ _ (.inl hjlt)]⟩
                    case measure => omega
              · have hbkI : ¬ (2 : Int) ≤ (b : Int) - (k : Int) := by omega
                have HO4 : Hid (partialIns ltU a b n k d3 = R) := by
                  show _ = _
                  rw [← ho4.out]
                  unfold fixUp
                  rw [if_neg hbk]
                clear ho4
                go_wp2_with fail
                go_roundg n
                case rel => exact ⟨k, s + 1, d3, by have := HSG.out; omega, rfl, by go_num, by omega, hkb, HU4.out, HO4.out⟩
                case measure => omega

end Go.Proofs.YtafkkehcacdodaaGreat
