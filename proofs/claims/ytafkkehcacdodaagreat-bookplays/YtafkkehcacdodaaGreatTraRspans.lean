/- The document's Spans. -/
import Derived.Test.YtafkkehcacdodaaGreatTraSpans
set_option maxRecDepth 100000
namespace Go.Proofs.YtafkkehcacdodaaGreat
open Go.RowKit

set_option maxHeartbeats 8000000 in
theorem rspans_ok (v : Value) (B O : Nat) (l : List En) (w : World) (h : Ens w v B O l) (hok : ∀ e ∈ l, e.Ok) (hl : l.length ≤ 1000) :
    Calls Tryz.prog 38 #[v] w fun e w' => ∃ r, e = .returned r ∧ SpRow w' w.heap.size r (spans l) ∧ Below w.heap.size w w' := by
  obtain ⟨ad, cap, rfl, h2, h3, h4, h5⟩ := h
  have H5 : Hid (∀ i s, l[i]? = some s → EnAt w B (O + i * 5) s) := h5
  have HOK : Hid (∀ e ∈ l, e.Ok) := hok
  unfold maxLen at h3
  clear h5 hok
  go_enter Tryz.func38, Tryz.ntmps38
  go_wp2
  go_loopg [3, 4] l.length (fun gk rv i wr => ∃ (t : Nat) (r : Value), t + gk = l.length ∧ r = rv ∧ i = .int .i64 (t : Int) ∧ SpRow wr w.heap.size r (spans (l.take t)) ∧ Below w.heap.size w wr)
  case atStart => exact ⟨0, _, by omega, rfl, rfl, World.ownsRow_nil _ _ _ _, Below.refl _ _⟩
  case round =>
    obtain ⟨t, r, ht, rfl, rfl, hrow, hbel⟩ := hrel
    by_cases hlt : t < l.length
    case neg =>
      have hte : t = l.length := by omega
      subst hte
      rw [List.take_length] at hrow
      have hge : ¬ ((l.length : Int) < (l.length : Int)) := by omega
      have HR : Hid (SpRow wr w.heap.size r (spans l)) := hrow
      clear hrow
      go_wp2
      go_ret
      exact ⟨_, rfl, HR.out, hbel⟩
    obtain ⟨e, he⟩ : ∃ e, l[t]? = some e := ⟨_, List.getElem?_eq_getElem hlt⟩
    obtain rfl : ad = some ⟨B, O, none⟩ := by
      rcases h4 with h4 | h4
      · exact h4
      · subst h4; simp at hlt
    have hE := HOK.out e (List.mem_of_getElem? he)
    have HT : Hid (spans (l.take (t + 1)) = stepS (spans (l.take t)) e) := by
      show _ = _
      rw [List.take_add_one, he]; exact spans_snoc _ _
    have HLen : Hid ((spans (l.take t)).length ≤ t) := by
      have h1 := spans_length (l.take t)
      rw [List.length_take] at h1
      show _ ≤ _
      omega
    obtain ⟨c0, c1, c2, c3, c4⟩ := enAt_later (H5.out t e he) hbel
    have hltI : (t : Int) < (l.length : Int) := by omega
    clear he hlt
    obtain ⟨kd, tm, sb, aa, bb⟩ := e
    have HTM : Hid (-9223372036854775808 ≤ tm ∧ tm ≤ 9223372036854775807) := ⟨hE.time0, hE.time1⟩
    simp only at c0 c1 c2 c3 c4
    clear hE
    generalize spans (l.take t) = S at *
    obtain ⟨W, hW⟩ : ∃ W, W = wr.alloc (.cells #[.int .i64 kd, .int .i64 tm, .int .u32 sb, .int .u32 aa, .int .i64 bb] 73) := ⟨_, rfl⟩
    have hB1 : Below wr.heap.size wr W := by rw [hW]; exact below_alloc _ _
    have hWs : Hid (W.heap.size = wr.heap.size + 1) := by show _ = _; rw [hW]; simp
    have d0 : W.cell? ⟨wr.heap.size, 0, none⟩ = some (.int .i64 kd) := by rw [hW]; simp
    have d1 : W.cell? ⟨wr.heap.size, 1, none⟩ = some (.int .i64 tm) := by rw [hW]; simp
    have d2 : W.cell? ⟨wr.heap.size, 2, none⟩ = some (.int .u32 sb) := by rw [hW]; simp
    have d3 : W.cell? ⟨wr.heap.size, 3, none⟩ = some (.int .u32 aa) := by rw [hW]; simp
    have d4 : W.cell? ⟨wr.heap.size, 4, none⟩ = some (.int .i64 bb) := by rw [hW]; simp
    have HW : Hid (W = wr.alloc (.cells #[.int .i64 kd, .int .i64 tm, .int .u32 sb, .int .u32 aa, .int .i64 bb] 73)) := hW
    have HRW : Hid (SpRow W w.heap.size r S) := ownsRow_later hrow hB1
    have HR0 : Hid (SpRow wr w.heap.size r S) := hrow
    have HBW : Hid (Below w.heap.size w W) := hbel.trans (hB1.mono hbel.size)
    have hbs := hbel.size
    obtain ⟨g0, hsps, -⟩ := spRow_sps HRW.out
    have HL := HLen.out
    have HO := open_any r g0 0 S aa bb W hsps (by omega)
    clear hW hrow hbel hB1 hsps
    by_cases hk2 : kd = 2
    · subst hk2
      cases ho : openI S aa bb with
      | some i =>
        have hf := openI_lt ho
        rw [ho] at HO
        simp only [openN] at HO
        obtain ⟨s, hs⟩ : ∃ s, S[i]? = some s := ⟨_, List.getElem?_eq_getElem hf⟩
        obtain ⟨g, cp, rfl, hg1, hg2, hg3⟩ := ownsRow_slice HRW.out (by omega)
        obtain ⟨q0, q1, q2, q3, q4, q5⟩ := spRow_at HRW.out rfl hs
        have hgW : g < wr.heap.size := (ownsRow_lt HR0.out rfl).2
        have hgne : wr.heap.size ≠ g := by omega
        have hgne' : g ≠ wr.heap.size := by omega
        have HSI : Hid (S[i]? = some s) := hs
        have F1 := fun j => ownsRow_frozen HRW.out j
        have KR : Hid (∀ T X, X = max s.frm T → SpRow ((W.setCell ⟨g, i * 6 + 4, none⟩ (.int .i64 X)).setCell ⟨g, i * 6 + 5, none⟩ (.bool false)) w.heap.size (.slice (some ⟨g, 0, none⟩) S.length cp) (shutI S (openI S aa bb) T)) := fun T X hX => by
          rw [hX, ho, shutI_set HSI.out]
          unfold SpRow
          rw [List.length_set]
          exact spRow_set2 HRW.out HSI.out T
        have KB : Hid (∀ X, Below w.heap.size w ((W.setCell ⟨g, i * 6 + 4, none⟩ (.int .i64 X)).setCell ⟨g, i * 6 + 5, none⟩ (.bool false))) := fun X =>
          (HBW.out.setCell (p := ⟨g, i * 6 + 4, none⟩) hg1 _).setCell (p := ⟨g, i * 6 + 5, none⟩) hg1 _
        have hili : (i : Int) < (S.length : Int) := by omega
        have HSL : Hid (∀ T, (shutI S (openI S aa bb) T).length = S.length) := fun T => shutI_length _ _ _
        obtain ⟨s0, s1, s2, s3, s4, s5⟩ := s
        simp only at q0 q1 q2 q3 q4 q5
        clear ho hs
        have HST : Hid (stepS S ⟨2, tm, sb, aa, bb⟩ = shutI S (openI S aa bb) (aheadT tm) ++ [newS ⟨2, tm, sb, aa, bb⟩]) := by show _ = _; unfold stepS; rw [if_pos rfl]
        have ht1 := HTM.out.1
        have ht2 := HTM.out.2
        by_cases hmin : tm = -9223372036854775808
        · subst hmin
          by_cases hs3 : s3 ≤ -9223372036854775808
          · clear ht1 ht2
            go_wp2_with (first
              | (go_at_call 78; rw [← HW.out]; refine HO.mono ?_; rintro e w1 ⟨rfl, h1⟩; have h1 := h1.symm; subst h1)
              | (at_builtin; refine append_here _ _ _ rfl ?_; generalize hW3 : World.setCell (World.setCell _ _ _) _ _ = W3; have hR3 : SpRow W3 w.heap.size (.slice (some ⟨g, 0, none⟩) S.length cp) (shutI S (openI S aa bb) (aheadT (-9223372036854775808))) := (by rw [← hW3]; exact KR.out (aheadT (-9223372036854775808)) (-9223372036854775808) (by show (-9223372036854775808) = max s3 (aheadT (-9223372036854775808)); unfold aheadT; omega)); have hB3 : Below w.heap.size w W3 := (by rw [← hW3]; exact KB.out _); have hsz3 : W3.heap.size = W.heap.size := (by rw [← hW3]; simp [World.setCell]); clear hW3; obtain ⟨v', w5, hrun5, hR5, hG5, hB5⟩ := append_sp W3 w.heap.size (.slice (some ⟨g, 0, none⟩) S.length cp) _ (newS ⟨2, -9223372036854775808, sb, aa, bb⟩) hR3 hB3.size (by rw [HSL.out]; omega); simp only [newS] at hrun5; rw [hsz3] at hrun5; refine wpl_append_run rfl _ _ _ rfl _ _ rfl rfl hrun5 ?_; have HR5 : Hid (SpRow w5 w.heap.size v' (shutI S (openI S aa bb) (aheadT (-9223372036854775808)) ++ [newS ⟨2, -9223372036854775808, sb, aa, bb⟩])) := hR5; have HB5 : Hid (Below w.heap.size w w5) := hB3.trans hB5; clear hR5 hG5 hB5 hR3 hB3 hrun5))
            go_roundg (l.length - (t + 1))
            case rel => exact ⟨t + 1, v', by omega, rfl, by go_num, by rw [HT.out, HST.out]; exact HR5.out, HB5.out⟩
            case measure => omega
          · have hs3' : -9223372036854775808 < s3 := by omega
            clear hs3 ht1 ht2
            go_wp2_with (first
              | (go_at_call 78; rw [← HW.out]; refine HO.mono ?_; rintro e w1 ⟨rfl, h1⟩; have h1 := h1.symm; subst h1)
              | (at_builtin; refine append_here _ _ _ rfl ?_; generalize hW3 : World.setCell (World.setCell _ _ _) _ _ = W3; have hR3 : SpRow W3 w.heap.size (.slice (some ⟨g, 0, none⟩) S.length cp) (shutI S (openI S aa bb) (aheadT (-9223372036854775808))) := (by rw [← hW3]; exact KR.out (aheadT (-9223372036854775808)) s3 (by show s3 = max s3 (aheadT (-9223372036854775808)); unfold aheadT; omega)); have hB3 : Below w.heap.size w W3 := (by rw [← hW3]; exact KB.out _); have hsz3 : W3.heap.size = W.heap.size := (by rw [← hW3]; simp [World.setCell]); clear hW3; obtain ⟨v', w5, hrun5, hR5, hG5, hB5⟩ := append_sp W3 w.heap.size (.slice (some ⟨g, 0, none⟩) S.length cp) _ (newS ⟨2, -9223372036854775808, sb, aa, bb⟩) hR3 hB3.size (by rw [HSL.out]; omega); simp only [newS] at hrun5; rw [hsz3] at hrun5; refine wpl_append_run rfl _ _ _ rfl _ _ rfl rfl hrun5 ?_; have HR5 : Hid (SpRow w5 w.heap.size v' (shutI S (openI S aa bb) (aheadT (-9223372036854775808)) ++ [newS ⟨2, -9223372036854775808, sb, aa, bb⟩])) := hR5; have HB5 : Hid (Below w.heap.size w w5) := hB3.trans hB5; clear hR5 hG5 hB5 hR3 hB3 hrun5))
            go_roundg (l.length - (t + 1))
            case rel => exact ⟨t + 1, v', by omega, rfl, by go_num, by rw [HT.out, HST.out]; exact HR5.out, HB5.out⟩
            case measure => omega
        · have hmin' : -9223372036854775808 < tm := by omega
          clear hmin
          by_cases hs3 : s3 ≤ tm - 1
          · go_wp2_with (first
              | (go_at_call 78; rw [← HW.out]; refine HO.mono ?_; rintro e w1 ⟨rfl, h1⟩; have h1 := h1.symm; subst h1)
              | (at_builtin; refine append_here _ _ _ rfl ?_; generalize hW3 : World.setCell (World.setCell _ _ _) _ _ = W3; have hR3 : SpRow W3 w.heap.size (.slice (some ⟨g, 0, none⟩) S.length cp) (shutI S (openI S aa bb) (aheadT tm)) := (by rw [← hW3]; exact KR.out (aheadT tm) (tm - 1) (by show (tm - 1) = max s3 (aheadT tm); unfold aheadT; omega)); have hB3 : Below w.heap.size w W3 := (by rw [← hW3]; exact KB.out _); have hsz3 : W3.heap.size = W.heap.size := (by rw [← hW3]; simp [World.setCell]); clear hW3; obtain ⟨v', w5, hrun5, hR5, hG5, hB5⟩ := append_sp W3 w.heap.size (.slice (some ⟨g, 0, none⟩) S.length cp) _ (newS ⟨2, tm, sb, aa, bb⟩) hR3 hB3.size (by rw [HSL.out]; omega); simp only [newS] at hrun5; rw [hsz3] at hrun5; refine wpl_append_run rfl _ _ _ rfl _ _ rfl rfl hrun5 ?_; have HR5 : Hid (SpRow w5 w.heap.size v' (shutI S (openI S aa bb) (aheadT tm) ++ [newS ⟨2, tm, sb, aa, bb⟩])) := hR5; have HB5 : Hid (Below w.heap.size w w5) := hB3.trans hB5; clear hR5 hG5 hB5 hR3 hB3 hrun5))
            go_roundg (l.length - (t + 1))
            case rel => exact ⟨t + 1, v', by omega, rfl, by go_num, by rw [HT.out, HST.out]; exact HR5.out, HB5.out⟩
            case measure => omega
          · have hs3' : tm - 1 < s3 := by omega
            clear hs3
            go_wp2_with (first
              | (go_at_call 78; rw [← HW.out]; refine HO.mono ?_; rintro e w1 ⟨rfl, h1⟩; have h1 := h1.symm; subst h1)
              | (at_builtin; refine append_here _ _ _ rfl ?_; generalize hW3 : World.setCell (World.setCell _ _ _) _ _ = W3; have hR3 : SpRow W3 w.heap.size (.slice (some ⟨g, 0, none⟩) S.length cp) (shutI S (openI S aa bb) (aheadT tm)) := (by rw [← hW3]; exact KR.out (aheadT tm) s3 (by show s3 = max s3 (aheadT tm); unfold aheadT; omega)); have hB3 : Below w.heap.size w W3 := (by rw [← hW3]; exact KB.out _); have hsz3 : W3.heap.size = W.heap.size := (by rw [← hW3]; simp [World.setCell]); clear hW3; obtain ⟨v', w5, hrun5, hR5, hG5, hB5⟩ := append_sp W3 w.heap.size (.slice (some ⟨g, 0, none⟩) S.length cp) _ (newS ⟨2, tm, sb, aa, bb⟩) hR3 hB3.size (by rw [HSL.out]; omega); simp only [newS] at hrun5; rw [hsz3] at hrun5; refine wpl_append_run rfl _ _ _ rfl _ _ rfl rfl hrun5 ?_; have HR5 : Hid (SpRow w5 w.heap.size v' (shutI S (openI S aa bb) (aheadT tm) ++ [newS ⟨2, tm, sb, aa, bb⟩])) := hR5; have HB5 : Hid (Below w.heap.size w w5) := hB3.trans hB5; clear hR5 hG5 hB5 hR3 hB3 hrun5))
            go_roundg (l.length - (t + 1))
            case rel => exact ⟨t + 1, v', by omega, rfl, by go_num, by rw [HT.out, HST.out]; exact HR5.out, HB5.out⟩
            case measure => omega
      | none =>
        rw [ho] at HO
        simp only [openN] at HO
        obtain ⟨v', w5, hrun5, hR5, hG5, hB5⟩ := append_sp W w.heap.size r S (newS ⟨2, tm, sb, aa, bb⟩) HRW.out (by have := hWs.out; omega) (by omega)
        simp only [newS] at hrun5
        obtain ⟨ra, rc, rfl, hr1, hr2, hr3⟩ := ownsRow_shape HRW.out
        have R1 : Hid (SpRow w5 w.heap.size v' (spans (l.take (t + 1)))) := by
          show SpRow _ _ _ _
          rw [HT.out, show stepS S ⟨2, tm, sb, aa, bb⟩ = S ++ [newS ⟨2, tm, sb, aa, bb⟩] from by unfold stepS; rw [if_pos rfl, ho]; rfl]
          exact hR5
        have R3 : Hid (Below w.heap.size w w5) := HBW.out.trans hB5
        clear ho hR5 hG5 hB5
        go_wp2_with (first
          | (go_at_call 78; rw [← HW.out]; refine HO.mono ?_; rintro e w1 ⟨rfl, h1⟩; have h1 := h1.symm; subst h1)
          | (at_builtin; refine wpl_append_run rfl _ _ _ rfl _ _ rfl rfl hrun5 ?_))
        go_roundg (l.length - (t + 1))
        case rel => exact ⟨t + 1, v', by omega, rfl, by go_num, R1.out, R3.out⟩
        case measure => omega
    · by_cases hk3 : kd = 3
      · subst hk3
        cases ho : openI S aa bb with
        | some i =>
          have hf := openI_lt ho
          rw [ho] at HO
          simp only [openN] at HO
          obtain ⟨s, hs⟩ : ∃ s, S[i]? = some s := ⟨_, List.getElem?_eq_getElem hf⟩
          obtain ⟨g, cp, rfl, hg1, hg2, hg3⟩ := ownsRow_slice HRW.out (by omega)
          obtain ⟨q0, q1, q2, q3, q4, q5⟩ := spRow_at HRW.out rfl hs
          have hgW : g < wr.heap.size := (ownsRow_lt HR0.out rfl).2
          have hgne : wr.heap.size ≠ g := by omega
          have hgne' : g ≠ wr.heap.size := by omega
          have HSI : Hid (S[i]? = some s) := hs
          have F1 := fun j => ownsRow_frozen HRW.out j
          have KR : Hid (∀ T X, X = max s.frm T → SpRow ((W.setCell ⟨g, i * 6 + 4, none⟩ (.int .i64 X)).setCell ⟨g, i * 6 + 5, none⟩ (.bool false)) w.heap.size (.slice (some ⟨g, 0, none⟩) S.length cp) (shutI S (openI S aa bb) T)) := fun T X hX => by
            rw [hX, ho, shutI_set HSI.out]
            unfold SpRow
            rw [List.length_set]
            exact spRow_set2 HRW.out HSI.out T
          have KB : Hid (∀ X, Below w.heap.size w ((W.setCell ⟨g, i * 6 + 4, none⟩ (.int .i64 X)).setCell ⟨g, i * 6 + 5, none⟩ (.bool false))) := fun X =>
            (HBW.out.setCell (p := ⟨g, i * 6 + 4, none⟩) hg1 _).setCell (p := ⟨g, i * 6 + 5, none⟩) hg1 _
          have hili : (i : Int) < (S.length : Int) := by omega
          have HSL : Hid (∀ T, (shutI S (openI S aa bb) T).length = S.length) := fun T => shutI_length _ _ _
          obtain ⟨s0, s1, s2, s3, s4, s5⟩ := s
          simp only at q0 q1 q2 q3 q4 q5
          clear ho hs
          have HST : Hid (stepS S ⟨3, tm, sb, aa, bb⟩ = shutI S (openI S aa bb) tm) := by show _ = _; unfold stepS; rw [if_neg (show ¬ (3 : Int) = 2 by decide), if_pos rfl]
          by_cases hs3 : s3 ≤ tm
          · go_wp2_with (go_at_call 78; rw [← HW.out]; refine HO.mono ?_; rintro e w1 ⟨rfl, h1⟩; have h1 := h1.symm; subst h1)
            go_roundg (l.length - (t + 1))
            case rel => exact ⟨t + 1, _, by omega, rfl, by go_num, by rw [HT.out, HST.out]; exact KR.out tm tm (by show tm = max s3 tm; omega), KB.out _⟩
            case measure => omega
          · have hs3' : tm < s3 := by omega
            clear hs3
            go_wp2_with (go_at_call 78; rw [← HW.out]; refine HO.mono ?_; rintro e w1 ⟨rfl, h1⟩; have h1 := h1.symm; subst h1)
            go_roundg (l.length - (t + 1))
            case rel => exact ⟨t + 1, _, by omega, rfl, by go_num, by rw [HT.out, HST.out]; exact KR.out tm s3 (by show s3 = max s3 tm; omega), KB.out _⟩
            case measure => omega
        | none =>
          rw [ho] at HO
          simp only [openN] at HO
          obtain ⟨ra, rc, rfl, hr1, hr2, hr3⟩ := ownsRow_shape HRW.out
          have R1 : Hid (SpRow W w.heap.size (.slice ra S.length rc) (spans (l.take (t + 1)))) := by
            show SpRow _ _ _ _
            rw [HT.out, show stepS S ⟨3, tm, sb, aa, bb⟩ = S from by unfold stepS; rw [if_neg (show ¬ (3 : Int) = 2 by decide), if_pos rfl, ho]; rfl]
            exact HRW.out
          clear ho
          go_wp2_with (go_at_call 78; rw [← HW.out]; refine HO.mono ?_; rintro e w1 ⟨rfl, h1⟩; have h1 := h1.symm; subst h1)
          go_roundg (l.length - (t + 1))
          case rel => exact ⟨t + 1, _, by omega, rfl, by go_num, R1.out, HBW.out⟩
          case measure => omega
      · have HS0 : Hid (stepS S ⟨kd, tm, sb, aa, bb⟩ = S) := by
          show _ = _
          unfold stepS; rw [if_neg hk2, if_neg hk3]
        have R1 : Hid (SpRow W w.heap.size r (spans (l.take (t + 1)))) := by
          show SpRow _ _ _ _
          rw [HT.out, HS0.out]; exact HRW.out
        have hn2 : (kd != 2) = true := by simp [hk2]
        have hn3 : (kd != 3) = true := by simp [hk3]
        go_wp2
        rw [← HW.out]
        go_roundg (l.length - (t + 1))
        case rel => exact ⟨t + 1, _, by omega, rfl, by go_num, R1.out, HBW.out⟩
        case measure => omega

end Go.Proofs.YtafkkehcacdodaaGreat
