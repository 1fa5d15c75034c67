/- The library's sort of subscribers: the recursion. -/
import Derived.Test.YtafkkehcacdodaaGreatTraSortC
import Derived.Test.YtafkkehcacdodaaGreatM30
import Derived.Test.YtafkkehcacdodaaGreatTraSortP
import Derived.Test.YtafkkehcacdodaaGreatTraSortX
import Derived.Sort.Walk13a
import Derived.Sort.LotA
import Derived.Sort.LotB
import Derived.Sort.LotC
import Derived.Test.YtafkkehcacdodaaGreatM27
set_option maxRecDepth 100000
namespace Go.Proofs.YtafkkehcacdodaaGreat
open Go.RowKit Go.Shelf Go.Sort
attribute [local go_sem ↓] Go.wp_at_zero Go.wp_at_succ

theorem swoU : SWO ltU := swo_ltInt

theorem pdqU : pdq_stmt ltU := pdq_holds insertionSort_holds heapSort_holds partialInsertionSort_holds (partition_holds _) (partitionEqual_holds _) reverseRange_holds

/-- What one round of the recursion does, in letters. -/
theorem round_facts (d R : Array Int) (a b lim : Nat) (wb wp : Bool) (hR : pdq ltU d a b lim wb wp = R) (h12 : ¬ b - a ≤ 12) (h0 : ¬ lim = 0) (hb : b ≤ d.size) (hB : Sort.Below ltU a b d) :
    ∃ (d1 : Array Int) (l1 p0 : Nat) (k0 : Hint) (d2 : Array Int) (pv : Nat) (k1 : Hint) (d3 : Array Int) (stop : Bool),
      (wb = false → d1 = breakPatterns d a b ∧ l1 = lim - 1) ∧ (wb = true → d1 = d ∧ l1 = lim) ∧
      choosePivot ltU d1 a b = (p0, k0) ∧ (a ≤ p0 ∧ p0 < b) ∧
      (k0 = .decreasing → d2 = reverseRange d1 a b ∧ pv = (b - 1) - (p0 - a) ∧ k1 = .increasing) ∧
      (k0 ≠ .decreasing → d2 = d1 ∧ pv = p0 ∧ k1 = k0) ∧
      ((wb && wp && decide (k1 = .increasing)) = true → partialInsertionSort ltU d2 a b = (d3, stop)) ∧
      ((wb && wp && decide (k1 = .increasing)) = false → d3 = d2 ∧ stop = false) ∧
      (a ≤ pv ∧ pv < b) ∧ l1 ≤ lim ∧
      (stop = true → R = d3) ∧
      (stop = false → (decide (a > 0) && !ltU d3[a - 1]! d3[pv]!) = true → ∀ mid d4, partitionEqual ltU d3 a b pv = (mid, d4) → a < mid ∧ mid ≤ b ∧ Sort.Below ltU mid b d4 ∧ pdq ltU d4 mid b l1 wb wp = R) ∧
      (stop = false → (decide (a > 0) && !ltU d3[a - 1]! d3[pv]!) = false → ∀ mid ap d4, partition ltU d3 a b pv = (mid, ap, d4) → a ≤ mid ∧ mid < b ∧ Sort.Below ltU a mid d4 ∧ Sort.Below ltU (mid + 1) b d4 ∧
        (mid - a < b - mid → Sort.Below ltU (mid + 1) b (pdq ltU d4 a mid l1 true true) ∧ pdq ltU (pdq ltU d4 a mid l1 true true) (mid + 1) b l1 (decide (mid - a ≥ (b - a) / 8)) ap = R) ∧
        (¬ mid - a < b - mid → Sort.Below ltU a mid (pdq ltU d4 (mid + 1) b l1 true true) ∧ pdq ltU (pdq ltU d4 (mid + 1) b l1 true true) a mid l1 (decide (b - mid ≥ (b - a) / 8)) ap = R)) := by
  obtain ⟨s1, B1, hc1, s2, B2, hpv, s3, B3⟩ := rd_facts (lt := ltU) (limit := lim) (wb := wb) (wp := wp) swoU partialInsertionSort_holds reverseRange_holds (show a < b by omega) hb hB
  refine ⟨(rd ltU d a b lim wb wp).d1, (rd ltU d a b lim wb wp).lim, (rd ltU d a b lim wb wp).c.1, (rd ltU d a b lim wb wp).c.2, (rd ltU d a b lim wb wp).d2, (rd ltU d a b lim wb wp).pivot, (rd ltU d a b lim wb wp).hint, (rd ltU d a b lim wb wp).pi.1, (rd ltU d a b lim wb wp).pi.2, ?_, ?_, rfl, hc1, rd_dec, rd_not, fun h => (rd_pi_yes h).symm, ?_, hpv, rd_lim_le, ?_, ?_, ?_⟩
  · rintro rfl; exact rd_false
  · rintro rfl; exact rd_true
  · intro h; rw [rd_pi_no h]; exact ⟨rfl, rfl⟩
  · intro h; rw [← hR, pdq_done h12 h0 h]
  · intro h ht mid d4 hx
    have ht' := ht
    simp only [Bool.and_eq_true, decide_eq_true_eq, Bool.not_eq_true'] at ht'
    obtain ⟨r1, r2, r3, r4, -⟩ := round_eq swoU (partitionEqual_holds _) ht'.1 hpv.1 hpv.2 (by omega) B3 ht'.2 hx
    exact ⟨r1, r2, r4, by rw [← hR, pdq_eq h12 h0 h ht (by rw [hx]; exact ⟨r1, r2⟩), hx]⟩
  · intro h ht mid ap d4 hx
    obtain ⟨r1, r2, r3, r4, r5, r6, r7⟩ := round_part swoU (partition_holds _) hpv.1 hpv.2 (by omega) B3 hx
    refine ⟨r1, r2, r4, r5, fun hm => ?_, fun hm => ?_⟩
    · obtain ⟨pL, sL⟩ := pdqU swoU d4 a mid (rd ltU d a b lim wb wp).lim true true r1 (by omega) r4
      exact ⟨(r6 _ pL sL).1, by rw [← hR, pdq_left h12 h0 h ht (by rw [hx]; exact ⟨r1, r2⟩) (by rw [hx]; exact hm), hx]⟩
    · obtain ⟨pL, sL⟩ := pdqU swoU d4 (mid + 1) b (rd ltU d a b lim wb wp).lim true true (by omega) (by omega) r5
      exact ⟨(r7 _ pL sL).1, by rw [← hR, pdq_right h12 h0 h ht (by rw [hx]; exact ⟨r1, r2⟩) (by rw [hx]; exact hm), hx]⟩

theorem code_two {h : Hint} (e : hintCode h = 2) : h = .decreasing := by cases h <;> simp [hintCode] at e ⊢

theorem eighthU {x y p q L : Nat} (h1 : q ≤ p) (hL : x - y = L) : decide ((L : Int) / 8 ≤ (p : Int) - (q : Int)) = decide (p - q ≥ (x - y) / 8) :=
  decide_eq_decide.2 ⟨fun h => by omega, fun h => by omega⟩

set_option maxHeartbeats 16000000 in
set_option maxRecDepth 1000000 in
theorem pdq_ok (base g cap N : Nat) (hd : N ≤ 100000) : ∀ (K : Nat) (w : World) (d : Array Int) (a b limit : Nat), b - a < K → UA w base g cap d → d.size = N → a ≤ b → b ≤ N → limit ≤ 1000 → Sort.Below ltU a b d →
    Calls Tryz.prog 113 #[.slice (some ⟨g, 0, none⟩) N cap, .int .i64 a, .int .i64 b, .int .i64 limit] w fun e w' => e = .returned (.tuple #[]) ∧ RwU w w' base g cap N (pdq ltU d a b limit true true) := by
  intro K
  induction K with
  | zero => intro _ _ _ _ _ h; exact absurd h (Nat.not_lt_zero _)
  | succ K ih =>
    intro w d a b limit hK h hN hab hb hlim hB0
    obtain ⟨R, hR⟩ : ∃ R, R = pdq ltU d a b limit true true := ⟨_, rfl⟩
    rw [← hR]
    have HS : Hid (RwU w w base g cap N d ∧ Sort.Below ltU a b d ∧ pdq ltU d a b limit true true = R) := ⟨RwU.start h hN, hB0, hR.symm⟩
    have IH : Hid (∀ (w : World) (d : Array Int) (a b limit : Nat), b - a < K → UA w base g cap d → d.size = N → a ≤ b → b ≤ N → limit ≤ 1000 → Sort.Below ltU a b d →
      Calls Tryz.prog 113 #[.slice (some ⟨g, 0, none⟩) N cap, .int .i64 a, .int .i64 b, .int .i64 limit] w fun e w' => e = .returned (.tuple #[]) ∧ RwU w w' base g cap N (pdq ltU d a b limit true true)) := ih
    have HK0 : Hid (b - a < K + 1) := hK
    clear h hN hR hB0 ih hK
    go_enter Tryz.func113, Tryz.ntmps113
    go_wp2
    go_loopg [1, 2, 3, 8, 9] (b - a) (fun k s1 s2 s3 s8 s9 wr => ∃ (a' b' lim : Nat) (wb wp : Bool) (dk : Array Int), s1 = .int .i64 (a' : Int) ∧ s2 = .int .i64 (b' : Int) ∧ s3 = .int .i64 (lim : Int) ∧ s8 = .bool wb ∧ s9 = .bool wp ∧
      a' ≤ b' ∧ b' ≤ N ∧ b' - a' = k ∧ k ≤ b - a ∧ lim ≤ 1000 ∧ Hid (Sort.Below ltU a' b' dk) ∧ RwU w wr base g cap N dk ∧ Hid (pdq ltU dk a' b' lim wb wp = R))
    case atStart => exact ⟨a, b, limit, true, true, d, rfl, rfl, rfl, rfl, rfl, hab, hb, rfl, Nat.le_refl _, hlim, HS.out.2.1, HS.out.1, HS.out.2.2⟩
    case round =>
      clear HS
      obtain ⟨a', b', lim, wb, wp, dk, rfl, rfl, rfl, rfl, rfl, hab', hb', hk, hkN, hlm, hBel, hu, heq⟩ := hrel
      have HU : Hid (RwU w wr base g cap N dk) := hu
      have HK : Hid (b' - a' = gk ∧ gk ≤ b - a) := ⟨hk, hkN⟩
      obtain ⟨L, hL⟩ : ∃ L : Nat, L = b' - a' := ⟨_, rfl⟩
      have HL : Hid (L = b' - a') := hL
      have hLI : (b' : Int) - (a' : Int) = (L : Int) := by omega
      have hw1 : IntKind.i64.wrap (L : Int) = (L : Int) := IntWalk.i64_in _ (by omega)
      by_cases h12 : b' - a' ≤ 12
      · have h12I : (L : Int) ≤ 12 := by omega
        have hc : Hid (Calls Tryz.prog 130 #[.slice (some ⟨g, 0, none⟩) N cap, .int .i64 (a' : Int), .int .i64 (b' : Int)] wr fun e w' => e = .returned (.tuple #[]) ∧ RwU wr w' base g cap N (insertionSort ltU dk a' b')) := insertion_ok wr base g cap N dk a' b' hu.1 hu.2.1 hab' hb' hd
        have HE : Hid (R = insertionSort ltU dk a' b') := by show _ = _; rw [← heq.out, pdq_small h12]
        clear hu hk hkN hL h12 hBel heq
        go_wp2_with (go_at_call 130; refine hc.out.mono ?_; rintro e w1 ⟨rfl, hw1⟩)
        (try simp only [Exit.inBlock, Exit.then]); refine bodyPost_ret (results_none rfl _ _ _) rfl ?_
        exact ⟨rfl, by rw [HE.out]; exact HU.out.call hw1⟩
      · have h12I : ¬ (L : Int) ≤ 12 := by omega
        by_cases hl0 : lim = 0
        · have hl0I : (lim : Int) = 0 := by omega
          have hc : Hid (Calls Tryz.prog 131 #[.slice (some ⟨g, 0, none⟩) N cap, .int .i64 (a' : Int), .int .i64 (b' : Int)] wr fun e w' => e = .returned (.tuple #[]) ∧ RwU wr w' base g cap N (heapSort ltU dk a' b')) := heap_ok wr base g cap N dk a' b' hu.1 hu.2.1 hab' hb' hd
          have HE : Hid (R = heapSort ltU dk a' b') := by show _ = _; rw [← heq.out, pdq_heap h12 hl0]
          clear hu hk hkN hL h12 hBel heq hl0
          go_wp2_with (go_at_call 131; refine hc.out.mono ?_; rintro e w1 ⟨rfl, hw1⟩)
          (try simp only [Exit.inBlock, Exit.then]); refine bodyPost_ret (results_none rfl _ _ _) rfl ?_
          exact ⟨rfl, by rw [HE.out]; exact HU.out.call hw1⟩
        · have hl0I : ¬ (lim : Int) = 0 := by omega
          obtain ⟨d1, l1, p0, k0, d2, pv, k1, d3, stop, f1, f2, f3, f4, f5, f6, f7, f8, f9, f10, f11, f12, f13⟩ := round_facts dk R a' b' lim wb wp heq.out h12 hl0 (by rw [hu.2.1]; exact hb') hBel.out
          have hltI : (a' : Int) < (b' : Int) := by omega
          have F1 : Hid ((wb = false → d1 = breakPatterns dk a' b' ∧ l1 = lim - 1) ∧ (wb = true → d1 = dk ∧ l1 = lim)) := ⟨f1, f2⟩
          have F3 : Hid (choosePivot ltU d1 a' b' = (p0, k0) ∧ (a' ≤ p0 ∧ p0 < b')) := ⟨f3, f4⟩
          have F5 : Hid ((k0 = .decreasing → d2 = reverseRange d1 a' b' ∧ pv = (b' - 1) - (p0 - a') ∧ k1 = .increasing) ∧ (k0 ≠ .decreasing → d2 = d1 ∧ pv = p0 ∧ k1 = k0)) := ⟨f5, f6⟩
          have F7 : Hid (((wb && wp && decide (k1 = .increasing)) = true → partialInsertionSort ltU d2 a' b' = (d3, stop)) ∧ ((wb && wp && decide (k1 = .increasing)) = false → d3 = d2 ∧ stop = false)) := ⟨f7, f8⟩
          have F9 : Hid ((a' ≤ pv ∧ pv < b') ∧ l1 ≤ lim ∧ lim ≤ 1000) := ⟨f9, f10, hlm⟩
          have F11 : Hid (stop = true → R = d3) := f11
          have F12 : Hid (stop = false → (decide (a' > 0) && !ltU d3[a' - 1]! d3[pv]!) = true → ∀ mid d4, partitionEqual ltU d3 a' b' pv = (mid, d4) → a' < mid ∧ mid ≤ b' ∧ Sort.Below ltU mid b' d4 ∧ pdq ltU d4 mid b' l1 wb wp = R) := f12
          have F13 : Hid (stop = false → (decide (a' > 0) && !ltU d3[a' - 1]! d3[pv]!) = false → ∀ mid ap d4, partition ltU d3 a' b' pv = (mid, ap, d4) → a' ≤ mid ∧ mid < b' ∧ Sort.Below ltU a' mid d4 ∧ Sort.Below ltU (mid + 1) b' d4 ∧
            (mid - a' < b' - mid → Sort.Below ltU (mid + 1) b' (pdq ltU d4 a' mid l1 true true) ∧ pdq ltU (pdq ltU d4 a' mid l1 true true) (mid + 1) b' l1 (decide (mid - a' ≥ (b' - a') / 8)) ap = R) ∧
            (¬ mid - a' < b' - mid → Sort.Below ltU a' mid (pdq ltU d4 (mid + 1) b' l1 true true) ∧ pdq ltU (pdq ltU d4 (mid + 1) b' l1 true true) a' mid l1 (decide (b' - mid ≥ (b' - a') / 8)) ap = R)) := f13
          have HO : Hid (¬ lim = 0 ∧ a' < b' ∧ 12 < L) := ⟨hl0, by omega, by omega⟩
          clear f1 f2 f3 f4 f5 f6 f7 f8 f9 f10 f11 f12 f13 heq hBel hk hkN hL h12 hl0 hlm hu
          go_upto_if 35 with fail
          go_cut [3] from 19 to 133 (fun s3 wx => s3 = .int .i64 (l1 : Int) ∧ RwU w wx base g cap N d1)
          case first =>
            cases wb
            · obtain ⟨e1, e2⟩ := F1.out.1 rfl
              have hc : Hid (Calls Tryz.prog 132 #[.slice (some ⟨g, 0, none⟩) N cap, .int .i64 (a' : Int), .int .i64 (b' : Int)] wr fun e w' => e = .returned (.tuple #[]) ∧ RwU wr w' base g cap N d1) := by rw [e1]; exact break_ok wr base g cap N dk a' b' HU.out.1 HU.out.2.1 hab' hb' hd
              have hl1 : (lim : Int) - 1 = (l1 : Int) := by have := HO.out; omega
              have hwl : IntKind.i64.wrap (l1 : Int) = (l1 : Int) := IntWalk.i64_in _ (by have := F9.out; omega)
              clear e1 e2 F1
              go_wp2_with (go_at_call 132; refine hc.out.mono ?_; rintro e w1 ⟨rfl, hw1⟩)
              go_meet
              case rel => exact ⟨rfl, HU.out.call hw1⟩
            · obtain ⟨e1, e2⟩ := F1.out.2 rfl
              have E1 : Hid (d1 = dk ∧ l1 = lim) := ⟨e1, e2⟩
              clear e1 e2 F1
              go_wp2_with fail
              go_meet
              case rel => exact ⟨by rw [E1.out.2], by rw [E1.out.1]; exact HU.out⟩
          case rest =>
            obtain ⟨rfl, hu1⟩ := hcut
            have HU1 : Hid (RwU w wc base g cap N d1) := hu1
            have hc : Hid (Calls Tryz.prog 133 #[.slice (some ⟨g, 0, none⟩) N cap, .int .i64 (a' : Int), .int .i64 (b' : Int)] wc fun e w' => e = .returned (.tuple #[.int .i64 (p0 : Int), .int .i64 (hintCode k0)]) ∧ RwU wc w' base g cap N d1) := by
              have := pivot_ok wc base g cap N d1 a' b' hu1.1 hu1.2.1 HO.out.2.1 hb' hd
              rw [F3.out.1] at this
              exact this
            clear hu1 HU F1
            go_upto_if 50 with (go_at_call 133; refine hc.out.mono ?_; rintro e w2 ⟨rfl, hw2⟩)
            have HU2 : Hid (RwU w w2 base g cap N d1) := HU1.out.call hw2
            clear hw2 HU1 hc
            go_cut [11, 12] from 19 to 133 (fun s11 s12 wx => s11 = .int .i64 (pv : Int) ∧ s12 = .int .i64 (hintCode k1) ∧ RwU w wx base g cap N d2)
            case first =>
              by_cases hh : k0 = .decreasing
              · have hcode : hintCode k0 = 2 := by rw [hh]; rfl
                obtain ⟨e2, e3, e4⟩ := F5.out.1 hh
                have hc : Hid (Calls Tryz.prog 134 #[.slice (some ⟨g, 0, none⟩) N cap, .int .i64 (a' : Int), .int .i64 (b' : Int)] w2 fun e w' => e = .returned (.tuple #[]) ∧ RwU w2 w' base g cap N d2) := by rw [e2]; exact rev_ok w2 base g cap N d1 a' b' HU2.out.1 HU2.out.2.1 HO.out.2.1 hb' hd
                have E4 : Hid (k1 = .increasing) := e4
                have hpvI : (b' : Int) - 1 - ((p0 : Int) - (a' : Int)) = (pv : Int) := by have := F3.out.2; omega
                have hwp1 : IntKind.i64.wrap ((b' : Int) - 1) = (b' : Int) - 1 := IntWalk.i64_in _ (by omega)
                have hwp2 : IntKind.i64.wrap ((p0 : Int) - (a' : Int)) = (p0 : Int) - (a' : Int) := IntWalk.i64_in _ (by have := F3.out.2; omega)
                have hwp3 : IntKind.i64.wrap (pv : Int) = (pv : Int) := IntWalk.i64_in _ (by have := F9.out; omega)
                clear e2 e3 e4 hh
                go_wp2_with (go_at_call 134; refine hc.out.mono ?_; rintro e w3 ⟨rfl, hw3⟩)
                go_meet
                case rel => exact ⟨rfl, by rw [E4.out]; rfl, HU2.out.call hw3⟩
              · have hcode : ¬ (hintCode k0 = 2) := fun h => hh (code_two h)
                obtain ⟨e2, e3, e4⟩ := F5.out.2 hh
                have E : Hid (d2 = d1 ∧ pv = p0 ∧ k1 = k0) := ⟨e2, e3, e4⟩
                clear e2 e3 e4 hh
                go_wp2_with fail
                go_meet
                case rel => exact ⟨by rw [E.out.2.1], by rw [E.out.2.2], by rw [E.out.1]; exact HU2.out⟩
            case rest =>
              obtain ⟨rfl, rfl, hu3⟩ := hcut
              have HU3 : Hid (RwU w wc base g cap N d2) := hu3
              clear hu3 HU2 F5 F3
              obtain ⟨W3, hW3⟩ : ∃ W3, wc = W3 := ⟨_, rfl⟩
              rw [hW3] at HU3 ⊢
              clear hW3
              obtain ⟨t3, ht3⟩ : ∃ t3, t3 = (wb && wp && decide (k1 = .increasing)) := ⟨_, rfl⟩
              have HT3 : Hid (t3 = (wb && wp && decide (k1 = .increasing))) := ht3
              clear ht3
              go_upto_region 15 with fail
              go_cut [12, 68] from 19 to 133 (fun s12 s68 wx => s12 = .int .i64 (hintCode k1) ∧ s68 = .bool t3 ∧ wx = W3)
              case first =>
                have hh := HT3.out
                clear HT3 F13 F12 F11 F9 F7
                cases wb <;> cases wp <;> cases k1 <;>
                  (simp at hh
                   subst hh
                   simp only [hintCode]
                   go_wp2_with fail
                   go_meet
                   exact ⟨rfl, rfl, rfl⟩)
              case rest =>
                obtain ⟨rfl, rfl, rfl⟩ := hcut
                go_upto_if 68 with fail
                go_cut [] from 19 to 133 (fun wx => stop = false ∧ RwU w wx base g cap N d3)
                case first =>
                  cases ht : t3
                  · obtain ⟨e1, e2⟩ := F7.out.2 (by rw [← HT3.out]; exact ht)
                    have E : Hid (d3 = d2 ∧ stop = false) := ⟨e1, e2⟩
                    clear e1 e2
                    go_wp2_with fail
                    go_meet
                    case rel => exact ⟨E.out.2, by rw [E.out.1]; exact HU3.out⟩
                  · have e1 := F7.out.1 (by rw [← HT3.out]; exact ht)
                    have hc : Hid (Calls Tryz.prog 135 #[.slice (some ⟨g, 0, none⟩) N cap, .int .i64 (a' : Int), .int .i64 (b' : Int)] wc fun e w' => e = .returned (.bool stop) ∧ RwU wc w' base g cap N d3) := by
                      have := partial_ok wc base g cap N d2 a' b' HU3.out.1 HU3.out.2.1 HO.out.2.1 hb' hd
                      rw [e1] at this
                      exact this
                    clear e1
                    cases hst : stop
                    · have HST : Hid (stop = false) := hst
                      rw [hst] at hc
                      clear hst
                      go_wp2_with (go_at_call 135; refine hc.out.mono ?_; rintro e w3 ⟨rfl, hw3⟩)
                      go_meet
                      case rel => exact ⟨HST.out, HU3.out.call hw3⟩
                    · have HST : Hid (R = d3) := F11.out hst
                      rw [hst] at hc
                      clear hst
                      go_wp2_with (go_at_call 135; refine hc.out.mono ?_; rintro e w3 ⟨rfl, hw3⟩)
                      (try simp only [Exit.inBlock, Exit.then]); refine bodyPost_ret (results_none rfl _ _ _) rfl ?_
                      exact ⟨rfl, by rw [HST.out]; exact HU3.out.call hw3⟩
                case rest =>
                  obtain ⟨hstop, hu5⟩ := hcut
                  have HST : Hid (stop = false) := hstop
                  have HU5 : Hid (RwU w wc base g cap N d3) := hu5
                  clear hstop hu5 HU3 F7 F11 HT3
                  obtain ⟨G, hG⟩ : ∃ G : Nat → Int, ∀ t, G t = d3[t]! := ⟨fun t => d3[t]!, fun _ => rfl⟩
                  have HG : Hid (∀ t, G t = d3[t]!) := hG
                  obtain ⟨hcw, hfw⟩ := HU5.out.fam hG
                  obtain ⟨t7, ht7⟩ : ∃ t7, t7 = (decide (a' > 0) && !ltU d3[a' - 1]! d3[pv]!) := ⟨_, rfl⟩
                  have HT7 : Hid (t7 = (decide (a' > 0) && !ltU d3[a' - 1]! d3[pv]!)) := ht7
                  have hpN : pv < N := by have := F9.out; omega
                  have hpI : (pv : Int) < (N : Int) := by omega
                  clear hG ht7
                  go_upto_region 17 with fail
                  go_cut [87] from 19 to 133 (fun s87 wx => s87 = .bool t7 ∧ RwU w wx base g cap N d3)
                  case first =>
                    rcases Nat.eq_zero_or_pos a' with ha0 | ha0
                    · have ha0I : decide ((a' : Int) > 0) = false := decide_eq_false (by omega)
                      have ha0N : decide (0 < a') = false := decide_eq_false (by omega)
                      have HA : Hid (t7 = false) := by show _ = _; rw [HT7.out]; simp [ha0]
                      clear ha0
                      go_big_quiet (first | (go_at_call 136; refine Calls.quiet_of_same (less_any _ _ _)))
                      go_wp2_with fail
                      go_meet
                      case rel => exact ⟨by rw [HA.out], HU5.out.drew _⟩
                    · have ha0I : (a' : Int) > 0 := by omega
                      have hat : ((a' : Int) - 1).toNat = a' - 1 := by omega
                      have ha1 : (0 : Int) ≤ (a' : Int) - 1 := by omega
                      have ha2 : (a' : Int) - 1 < (N : Int) := by omega
                      have han : a' - 1 < N := by omega
                      have HA : Hid (t7 = !ltU (G (a' - 1)) (G pv)) := by show _ = _; rw [HT7.out, HG.out, HG.out]; simp [ha0]
                      go_big_quiet (first | (go_at_call 136; refine Calls.quiet_of_same (less_any _ _ _)))
                      go_wp2_with fail
                      go_meet
                      case rel => exact ⟨by rw [HA.out], HU5.out.drew _⟩
                  case rest =>
                    clear hcw hfw
                    obtain ⟨rfl, hu6⟩ := hcut
                    have HU6 : Hid (RwU w wc base g cap N d3) := hu6
                    clear hu6 HU5 HG
                    cases ht7 : t7
                    · obtain ⟨mid, ap, d4, hx⟩ : ∃ mid ap d4, partition ltU d3 a' b' pv = (mid, ap, d4) := ⟨(partition ltU d3 a' b' pv).1, (partition ltU d3 a' b' pv).2.1, (partition ltU d3 a' b' pv).2.2, rfl⟩
                      have hc : Hid (Calls Tryz.prog 138 #[.slice (some ⟨g, 0, none⟩) N cap, .int .i64 (a' : Int), .int .i64 (b' : Int), .int .i64 (pv : Int)] wc fun e w' => e = .returned (.tuple #[.int .i64 (mid : Int), .bool ap]) ∧ RwU wc w' base g cap N d4) := by
                        have := part_ok wc base g cap N d3 a' b' pv HU6.out.1 HU6.out.2.1 F9.out.1.1 F9.out.1.2 hb' hd
                        rw [hx] at this
                        exact this
                      obtain ⟨r1, r2, r3, r4, r5, r6⟩ := F13.out HST.out (by rw [← HT7.out]; exact ht7) mid ap d4 hx
                      have R3 : Hid (Sort.Below ltU a' mid d4 ∧ Sort.Below ltU (mid + 1) b' d4) := ⟨r3, r4⟩
                      have R5 : Hid (mid - a' < b' - mid → Sort.Below ltU (mid + 1) b' (pdq ltU d4 a' mid l1 true true) ∧ pdq ltU (pdq ltU d4 a' mid l1 true true) (mid + 1) b' l1 (decide (mid - a' ≥ (b' - a') / 8)) ap = R) := r5
                      have R6 : Hid (¬ mid - a' < b' - mid → Sort.Below ltU a' mid (pdq ltU d4 (mid + 1) b' l1 true true) ∧ pdq ltU (pdq ltU d4 (mid + 1) b' l1 true true) a' mid l1 (decide (b' - mid ≥ (b' - a') / 8)) ap = R) := r6
                      have hm1I : (a' : Int) ≤ (mid : Int) := by omega
                      have hm2I : (mid : Int) < (b' : Int) := by omega
                      have hwa : IntKind.i64.wrap ((mid : Int) - (a' : Int)) = (mid : Int) - (a' : Int) := IntWalk.i64_in _ (by omega)
                      have hwb : IntKind.i64.wrap ((b' : Int) - (mid : Int)) = (b' : Int) - (mid : Int) := IntWalk.i64_in _ (by omega)
                      clear hx r3 r4 r5 r6 HT7 F12 F13 HST ht7
                      go_upto_if 113 with (go_at_call 138; refine hc.out.mono ?_; rintro e w7 ⟨rfl, hw7⟩)
                      have HU7 : Hid (RwU w w7 base g cap N d4) := HU6.out.call hw7
                      clear hw7 HU6 hc
                      by_cases h4 : mid - a' < b' - mid
                      · have h4I : (mid : Int) - (a' : Int) < (b' : Int) - (mid : Int) := by omega
                        have hih : Hid (Calls Tryz.prog 113 #[.slice (some ⟨g, 0, none⟩) N cap, .int .i64 (a' : Int), .int .i64 (mid : Int), .int .i64 (l1 : Int)] w7 fun e w' => e = .returned (.tuple #[]) ∧ RwU w7 w' base g cap N (pdq ltU d4 a' mid l1 true true)) :=
                          IH.out w7 d4 a' mid l1 (by have := HK.out; have := HK0.out; omega) HU7.out.1 HU7.out.2.1 r1 (by omega) (by have := F9.out; omega) R3.out.1
                        obtain ⟨q1, q2⟩ := R5.out h4
                        have Q : Hid (Sort.Below ltU (mid + 1) b' (pdq ltU d4 a' mid l1 true true) ∧ pdq ltU (pdq ltU d4 a' mid l1 true true) (mid + 1) b' l1 (decide (mid - a' ≥ (b' - a') / 8)) ap = R) := ⟨q1, q2⟩
                        have HM : Hid (mid < b' ∧ a' ≤ mid) := ⟨r2, r1⟩
                        clear q1 q2 h4 R5 R6
                        go_wp2_with (go_at_call 113; refine hih.out.mono ?_; rintro e w8 ⟨rfl, hw8⟩)
                        go_roundg (b' - (mid + 1))
                        case measure => have := HK.out; have := HM.out; omega
                        case rel =>
                          refine ⟨mid + 1, b', l1, decide (mid - a' ≥ (b' - a') / 8), ap, _, by go_num, rfl, rfl, ?_, rfl, by have := HM.out; omega, hb', rfl, by have := HK.out; omega, by have := F9.out; omega, Q.out.1, HU7.out.call hw8, Q.out.2⟩
                          exact congrArg Value.bool (eighthU HM.out.2 HL.out.symm)
                      · have h4I : ¬ ((mid : Int) - (a' : Int) < (b' : Int) - (mid : Int)) := by omega
                        have hm1 : (mid : Int) + 1 = ((mid + 1 : Nat) : Int) := by omega
                        have hih : Hid (Calls Tryz.prog 113 #[.slice (some ⟨g, 0, none⟩) N cap, .int .i64 ((mid : Int) + 1), .int .i64 (b' : Int), .int .i64 (l1 : Int)] w7 fun e w' => e = .returned (.tuple #[]) ∧ RwU w7 w' base g cap N (pdq ltU d4 (mid + 1) b' l1 true true)) := by
                          rw [hm1]
                          exact IH.out w7 d4 (mid + 1) b' l1 (by have := HK.out; have := HK0.out; omega) HU7.out.1 HU7.out.2.1 (by omega) hb' (by have := F9.out; omega) R3.out.2
                        obtain ⟨q1, q2⟩ := R6.out h4
                        have Q : Hid (Sort.Below ltU a' mid (pdq ltU d4 (mid + 1) b' l1 true true) ∧ pdq ltU (pdq ltU d4 (mid + 1) b' l1 true true) a' mid l1 (decide (b' - mid ≥ (b' - a') / 8)) ap = R) := ⟨q1, q2⟩
                        have HM : Hid (mid < b' ∧ a' ≤ mid) := ⟨r2, r1⟩
                        clear q1 q2 h4 R5 R6 hm1
                        go_wp2_with (go_at_call 113; refine hih.out.mono ?_; rintro e w8 ⟨rfl, hw8⟩)
                        go_roundg (mid - a')
                        case measure => have := HK.out; have := HM.out; omega
                        case rel =>
                          refine ⟨a', mid, l1, decide (b' - mid ≥ (b' - a') / 8), ap, _, rfl, rfl, rfl, ?_, rfl, HM.out.2, by have := HM.out; omega, rfl, by have := HK.out; have := HM.out; omega, by have := F9.out; omega, Q.out.1, HU7.out.call hw8, Q.out.2⟩
                          exact congrArg Value.bool (eighthU (Nat.le_of_lt HM.out.1) HL.out.symm)
                    · obtain ⟨mid, d4, hx⟩ : ∃ mid d4, partitionEqual ltU d3 a' b' pv = (mid, d4) := ⟨(partitionEqual ltU d3 a' b' pv).1, (partitionEqual ltU d3 a' b' pv).2, rfl⟩
                      have hc : Hid (Calls Tryz.prog 137 #[.slice (some ⟨g, 0, none⟩) N cap, .int .i64 (a' : Int), .int .i64 (b' : Int), .int .i64 (pv : Int)] wc fun e w' => e = .returned (.int .i64 (mid : Int)) ∧ RwU wc w' base g cap N d4) := by
                        have := equal_ok wc base g cap N d3 a' b' pv HU6.out.1 HU6.out.2.1 F9.out.1.1 F9.out.1.2 hb' hd
                        rw [hx] at this
                        exact this
                      have Q : Hid (a' < mid ∧ mid ≤ b' ∧ Sort.Below ltU mid b' d4 ∧ pdq ltU d4 mid b' l1 wb wp = R) := F12.out HST.out (by rw [← HT7.out]; exact ht7) mid d4 hx
                      clear hx HT7 F12 F13 HST ht7
                      go_wp2_with (go_at_call 137; refine hc.out.mono ?_; rintro e w7 ⟨rfl, hw7⟩)
                      go_roundg (b' - mid)
                      case measure => have := HK.out; have := Q.out; omega
                      case rel => exact ⟨mid, b', l1, wb, wp, d4, rfl, rfl, rfl, rfl, rfl, Q.out.2.1, hb', rfl, by have := HK.out; have := Q.out; omega, by have := F9.out; omega, Q.out.2.2.1, HU6.out.call hw7, Q.out.2.2.2⟩

end Go.Proofs.YtafkkehcacdodaaGreat

namespace Go.Proofs.YtafkkehcacdodaaGreat
open Go.RowKit Go.Shelf Go.Sort
attribute [local go_sem ↓] Go.wp_at_zero Go.wp_at_succ

theorem slicesSort_ok (w : World) (base g cap N : Nat) (d : Array Int) (h : UA w base g cap d) (hN : d.size = N) (hd : N ≤ 100000) :
    Calls Tryz.prog 92 #[.slice (some ⟨g, 0, none⟩) N cap] w fun e w' => e = .returned (.tuple #[]) ∧ RwU w w' base g cap N (Sort.sort ltU d) := by
  have hLen : Hid (∀ w, Calls Tryz.prog 114 #[.int .u64 (N : Int)] w fun e w' => e = .returned (.int .i64 (bitsLen N : Nat)) ∧ w' = w) := fun w => by
    have h : Calls Tryz.prog 114 #[.int .u64 (N : Int)] w fun e w' => e = .returned (.int .i64 (Lib.bitLen (N : Int).toNat)) ∧ w' = w := Any.bits_Len Tryz.bitsLen (N : Int) w (by omega) (by omega)
    rwa [Int.toNat_natCast, bitLen_eq _ (by omega)] at h
  have hk : bitsLen N ≤ 62 := (bitsLen_le_iff N 62).2 (by omega)
  have HP := pdq_ok base g cap N hd (N + 1) w d 0 N (bitsLen N) (by omega) h hN (Nat.zero_le _) (Nat.le_refl _) (by omega) (.inl rfl)
  have HP2 : Hid (Calls Tryz.prog 113 #[.slice (some ⟨g, 0, none⟩) N cap, .int .i64 0, .int .i64 (N : Int), .int .i64 ((bitsLen N : Nat) : Int)] w fun e w' => e = .returned (.tuple #[]) ∧ RwU w w' base g cap N (Sort.sort ltU d)) := by
    have e : Sort.sort ltU d = pdq ltU d 0 N (bitsLen N) true true := by unfold Sort.sort; rw [hN]
    rw [e]
    exact HP
  have hwr : IntKind.u64.wrap (N : Int) = (N : Int) := by rw [IntKind.wrap_u64]; omega
  clear h hN HP
  generalize bitsLen N = k at *
  go_enter Tryz.func92, Tryz.ntmps92
  go_wp2_with (first
    | (go_at_call 114; refine (hLen.out _).mono ?_; rintro e w' ⟨rfl, rfl⟩)
    | (go_at_call 113; refine HP2.out.mono ?_; rintro e w2 ⟨rfl, hw2⟩; have HW2 : Hid (RwU _ w2 base g cap N (Sort.sort ltU d)) := hw2; clear hw2))
  refine bodyPost_end (results_none rfl _ _ _) rfl ?_
  exact ⟨rfl, HW2.out⟩

/-- The library's sort, of up to a hundred thousand subscribers. -/
theorem sortU_of (n : Nat) (hn : n ≤ 100000) : SortU n := by
  intro W base v l h hok hl
  by_cases h1 : l.length ≤ 1
  · exact sortU_one W base v l h hok h1
  · obtain ⟨a, cap, rfl, -, -, h3⟩ := ownsRow_shape h
    obtain ⟨g, rfl⟩ : ∃ g, a = some ⟨g, 0, none⟩ := by
      rcases h3 with h3 | h3
      · omega
      · exact h3
    have hu : UA W base g cap l.toArray := h
    obtain ⟨hP, hS⟩ := sort_holds pdqU swoU l.toArray
    have hsz : (Sort.sort ltU l.toArray).size = l.length := by rw [hP.1]; simp
    refine (slicesSort_ok W base g cap l.length l.toArray hu (by simp) (by omega)).mono ?_
    rintro e w' ⟨rfl, hr⟩
    refine ⟨rfl, (Sort.sort ltU l.toArray).toList, ?_, ?_, ?_, ?_⟩
    · have := hP.2.2
      have e1 : (Sort.sort ltU l.toArray).extract 0 l.toArray.size = Sort.sort ltU l.toArray := by rw [← hP.1]; exact Array.extract_size
      rw [e1, Array.extract_size] at this
      exact this
    · rw [List.pairwise_iff_getElem]
      intro i j hi hj hij
      have hi' : i < (Sort.sort ltU l.toArray).size := by simpa using hi
      have hj' : j < (Sort.sort ltU l.toArray).size := by simpa using hj
      have := hS i j (Nat.zero_le _) hij (by rw [← hP.1]; exact hj')
      rw [getElem!_pos _ j hj', getElem!_pos _ i hi'] at this
      simp only [ltU, decide_eq_false_iff_not] at this
      simp only [Array.getElem_toList]
      omega
    · have hu' := hr.1
      unfold UA at hu'
      rw [hsz] at hu'
      have hll : (Sort.sort ltU l.toArray).toList.length = l.length := by rw [Array.length_toList, hsz]
      show w'.ownsRow base _ 1 (.slice (some ⟨g, 0, none⟩) l.length cap) (Sort.sort ltU l.toArray).toList.length _
      rw [hll]
      exact hu'
    · have hb : base ≤ g := (ownsRow_lt h rfl).1
      have hlt : g < W.heap.size := (ownsRow_lt h rfl).2
      exact ⟨hr.2.2.os, hr.2.2.tape, hr.2.2.output, hr.2.2.size, fun k hk => hr.2.2.block k (by omega) (by intro e; cases e; omega)⟩

theorem sortU_all : SortU 1000 := sortU_of 1000 (by omega)

end Go.Proofs.YtafkkehcacdodaaGreat
