/- found and ends. -/
import Derived.Test.YtafkkehcacdodaaGreatBokTell
import Derived.Test.YtafkkehcacdodaaGreatStrAwake
set_option maxRecDepth 100000
namespace Go.Proofs.YtafkkehcacdodaaGreat
open Go.RowKit Go.Shelf

theorem found_snoc (l : List (List Int)) (k : Nat) (h : k < l.length) : foundE (l.take (k + 1)) = foundE (l.take k) ++ (if whyE (l.getD k []) = 0 then [entE (l.getD k [])] else []) := by
  rw [List.take_succ_eq_append_getElem h]
  unfold foundE
  rw [List.filter_append, List.map_append]
  congr 1
  rw [List.getD_eq_getElem?_getD, List.getElem?_eq_getElem h]
  simp only [Option.getD_some]
  split
  · rename_i e
    simp [e]
  · rename_i e
    simp [e]

set_option maxHeartbeats 600000 in
theorem found_ok (w : World) (base0 : Nat) (v : Value) (vs : List Value) (ls : List (List Int)) (h : Lst w base0 v vs ls) (hl : ls.length ≤ 100000) :
    Calls Tryz.prog 31 #[v] w fun e w' => ∃ r, e = .returned r ∧ ERow w' w.heap.size r (foundE ls) ∧ Below w.heap.size w w' := by
  have HL : Hid (Lst w base0 v vs ls) := h
  obtain ⟨va, vc, rfl, hc1, hc2⟩ := win_form h.win
  unfold maxLen at hc2
  have h0 : ERow w w.heap.size (.slice none 0 0) (foundE (ls.take 0)) := World.ownsRow_nil _ _ _ _
  clear h
  go_enter Tryz.func31, Tryz.ntmps31
  go_wp2
  go_loopg [3, 10] ls.length (fun gk rv i wr => ∃ (k : Nat) (r : Value), k + gk = ls.length ∧ r = rv ∧ i = .int .i64 (k : Int) ∧ ERow wr w.heap.size r (foundE (ls.take k)) ∧ Below w.heap.size w wr)
  case atStart => exact ⟨0, _, by omega, rfl, rfl, h0, Below.refl _ _⟩
  case round =>
    obtain ⟨k, r, hk, rfl, rfl, hrow, hB⟩ := hrel
    by_cases hlt : k < ls.length
    case neg =>
      have hge : ¬ (k : Int) < (ls.length : Int) := by omega
      have hke : k = ls.length := by omega
      subst hke
      rw [List.take_length] at hrow
      have HR : Hid (ERow wr w.heap.size r (foundE ls)) := hrow
      clear hrow
      go_wp2
      go_ret
      exact ⟨_, rfl, HR.out, hB⟩
    have hltI : (k : Int) < (ls.length : Int) := by omega
    obtain ⟨LB, LO, lc, hvv, hlc, hlm, hcel⟩ := (HL.out.later hB).read (by omega)
    cases hvv
    have hc0 := hcel k hlt
    have hbt := (HL.out.later hB).bts k hlt
    have HS : Hid (foundE (ls.take (k + 1)) = foundE (ls.take k) ++ (if whyE (ls.getD k []) = 0 then [entE (ls.getD k [])] else [])) := found_snoc ls k hlt
    have HLe : Hid ((foundE (ls.take k)).length ≤ 100000) := by
      have := found_len (ls.take k)
      rw [List.length_take] at this
      show _ ≤ _
      omega
    have HRow : Hid (ERow wr w.heap.size r (foundE (ls.take k))) := hrow
    have hD := decode_any (vs.getD k undef) (ls.getD k []) wr hbt
    obtain ⟨ba, bc, hbv, _⟩ := bts_src hbt
    rw [hbv] at hc0 hD
    have hbsz := hB.size
    clear hbt hcel hrow hbv
    generalize foundE (ls.take k) = F at *
    generalize entE (ls.getD k []) = e at *
    generalize whyE (ls.getD k []) = y at *
    generalize (ls.getD k []).length = bn at *
    obtain ⟨k0, k1, k2, k3, k4⟩ := e
    go_wp2_with fail
    refine (by exact hD : Calls _ _ _ _ _).mono ?_
    rintro e w2 ⟨rfl, hB2⟩
    have hB02 := hB.trans (hB2.mono hbsz)
    have hB03 := hB02.trans ((below_alloc w2 (.cells #[.int .i64 k0, .int .i64 k1, .int .u32 k2, .int .u32 k3, .int .i64 k4] 73)).mono hB02.size)
    have hrow3 : ERow (w2.alloc (.cells #[.int .i64 k0, .int .i64 k1, .int .u32 k2, .int .u32 k3, .int .i64 k4] 73)) w.heap.size r F := World.ownsRow.alloc (ownsRow_later HRow.out hB2) _
    by_cases hy : y = 0
    · subst hy
      rw [if_pos rfl] at HS
      obtain ⟨v', w5, hr5, hrow5, hB5⟩ := append_e5 _ w.heap.size r F ⟨k0, k1, k2, k3, k4⟩ hrow3 hB03.size (by have := HLe.out; omega)
      obtain ⟨a5, c5, rfl, _⟩ := ownsRow_shape hrow5
      have hl1 : (F ++ [(⟨k0, k1, k2, k3, k4⟩ : En)]).length = F.length + 1 := by simp
      have HR5 : Hid (ERow w5 w.heap.size (.slice a5 (F.length + 1) c5) (F ++ [(⟨k0, k1, k2, k3, k4⟩ : En)])) := by rw [← hl1]; exact hrow5
      rw [hl1] at hr5
      have HB5 : Hid (Below w.heap.size w w5) := hB03.trans hB5
      obtain ⟨ra, rc, rfl, _⟩ := ownsRow_shape HRow.out
      simp only [World.size_alloc] at hr5
      clear hrow5 hB5 hrow3 hB2 hD
      go_wp2_with (at_builtin; refine wpl_append_run rfl _ _ 63 rfl _ _ rfl rfl hr5 ?_)
      go_roundg (ls.length - (k + 1))
      case rel => exact ⟨k + 1, _, by omega, rfl, by go_num, by rw [HS.out]; exact HR5.out, HB5.out⟩
      case measure => omega
    · rw [if_neg hy, List.append_nil] at HS
      have HB3 : Hid (Below w.heap.size w (w2.alloc (.cells #[.int .i64 k0, .int .i64 k1, .int .u32 k2, .int .u32 k3, .int .i64 k4] 73))) := hB03
      have HR3 : Hid (ERow (w2.alloc (.cells #[.int .i64 k0, .int .i64 k1, .int .u32 k2, .int .u32 k3, .int .i64 k4] 73)) w.heap.size r F) := hrow3
      have hy' : (y == 0) = false := by simpa using hy
      clear hrow3 hB03 hD
      go_wp2
      go_roundg (ls.length - (k + 1))
      case rel => exact ⟨k + 1, _, by omega, rfl, by go_num, by rw [HS.out]; exact HR3.out, HB3.out⟩
      case measure => omega

theorem ends_snoc (l : List Sp) (now : Int) (k : Nat) (s : Sp) (h : l[k]? = some s) : endsE (l.take (k + 1)) now = endsE (l.take k) now ++ (if s.opn then [⟨3, max now s.frm, 0, s.addr, s.block⟩] else []) := by
  rw [List.take_add_one, h]
  unfold endsE
  rw [List.filter_append, List.map_append]
  congr 1
  simp only [Option.toList_some]
  cases hs : s.opn with
  | true => rw [List.filter_cons_of_pos hs, List.filter_nil]; rfl
  | false => rw [List.filter_cons_of_neg (by rw [hs]; decide), List.filter_nil]; rfl

theorem ends_len2 (l : List Sp) (now : Int) : (endsE l now).length ≤ l.length := by
  unfold endsE
  rw [List.length_map]
  exact List.length_filter_le _ _

set_option maxHeartbeats 600000 in
theorem ends_ok (w : World) (v : Value) (B O : Nat) (l : List Sp) (now : Int) (h : Sps w v B O l) (hl : l.length ≤ 100000) :
    Calls Tryz.prog 34 #[v, .int .i64 now] w fun e w' => ∃ r, e = .returned r ∧ ERow w' w.heap.size r (endsE l now) ∧ Below w.heap.size w w' := by
  obtain ⟨ad, cap, rfl, h2, h3, h4, h5⟩ := h
  have H5 : Hid (∀ i s, l[i]? = some s → SpAt w B (O + i * 6) s) := h5
  unfold maxLen at h3
  have h0 : ERow w w.heap.size (.slice none 0 0) (endsE (l.take 0) now) := World.ownsRow_nil _ _ _ _
  clear h5
  go_enter Tryz.func34, Tryz.ntmps34
  go_wp2
  go_loopg [5, 10] l.length (fun gk rv i wr => ∃ (k : Nat) (r : Value), k + gk = l.length ∧ r = rv ∧ i = .int .i64 (k : Int) ∧ ERow wr w.heap.size r (endsE (l.take k) now) ∧ Below w.heap.size w wr)
  case atStart => exact ⟨0, _, by omega, rfl, rfl, h0, Below.refl _ _⟩
  case round =>
    obtain ⟨k, r, hk, rfl, rfl, hrow, hB⟩ := hrel
    by_cases hlt : k < l.length
    case neg =>
      have hge : ¬ (k : Int) < (l.length : Int) := by omega
      have hke : k = l.length := by omega
      subst hke
      rw [List.take_length] at hrow
      have HR : Hid (ERow wr w.heap.size r (endsE l now)) := hrow
      clear hrow
      go_wp2
      go_ret
      exact ⟨_, rfl, HR.out, hB⟩
    have hltI : (k : Int) < (l.length : Int) := by omega
    obtain ⟨s, hs⟩ : ∃ s, l[k]? = some s := ⟨_, List.getElem?_eq_getElem hlt⟩
    obtain rfl : ad = some ⟨B, O, none⟩ := by
      rcases h4 with h4 | h4
      · exact h4
      · subst h4; simp at hlt
    obtain ⟨c0, c1, c2, c3, c4, c5⟩ := spAt_later (H5.out k s hs) hB
    have HS : Hid (endsE (l.take (k + 1)) now = endsE (l.take k) now ++ (if s.opn then [⟨3, max now s.frm, 0, s.addr, s.block⟩] else [])) := ends_snoc l now k s hs
    have HLe : Hid ((endsE (l.take k) now).length ≤ 100000) := by
      have := ends_len2 (l.take k) now
      rw [List.length_take] at this
      show _ ≤ _
      omega
    have HRow : Hid (ERow wr w.heap.size r (endsE (l.take k) now)) := hrow
    have hbsz := hB.size
    clear hrow hs
    generalize endsE (l.take k) now = F at *
    obtain ⟨s0, s1, s2, s3, s4, s5⟩ := s
    simp only at c0 c1 c2 c3 c4 c5 HS
    obtain ⟨W, hW⟩ : ∃ W, W = wr.alloc (.cells #[.int .u32 s0, .int .u32 s1, .int .i64 s2, .int .i64 s3, .int .i64 s4, .bool s5] 59) := ⟨_, rfl⟩
    have hBW : Below wr.heap.size wr W := by rw [hW]; exact below_alloc _ _
    have hB0W := hB.trans (hBW.mono hbsz)
    cases s5 with
    | false =>
      simp only [Bool.false_eq_true, if_false, List.append_nil] at HS
      have HB3 : Hid (Below w.heap.size w W) := hB0W
      have HR3 : Hid (ERow W w.heap.size r F) := ownsRow_later HRow.out hBW
      rw [hW] at HB3 HR3
      clear hB0W hBW hW HRow
      go_wp2
      go_roundg (l.length - (k + 1))
      case rel => exact ⟨k + 1, _, by omega, rfl, by go_num, by rw [HS.out]; exact HR3.out, HB3.out⟩
      case measure => omega
    | true =>
      simp only [if_true] at HS
      have hRel := fun m => brel_ok W m s1 s2
      obtain ⟨ra, rc, rfl, _⟩ := ownsRow_shape HRow.out
      have HAp : Hid (∀ m, m = max now s3 → ∀ w4, Below W.heap.size W w4 → ∃ a5 c5 w5, (Builtin.append_ #[63, 63] 63 #[.slice ra F.length rc, .slice (some ⟨w4.heap.size, 0, none⟩) 1 1]).run Tryz.prog (w4.alloc (.cells #[.int .i64 3, .int .i64 m, .int .u32 0, .int .u32 s1, .int .i64 s2] 73)) = .ok (.slice a5 (F.length + 1) c5) w5 ∧
          ERow w5 w.heap.size (.slice a5 (F.length + 1) c5) (endsE (l.take (k + 1)) now) ∧ Below w.heap.size w w5) := by
        rintro m rfl w4 h4
        have hb4 := hB0W.trans (h4.mono hB0W.size)
        obtain ⟨v', w5, hr5, hrow5, hB5⟩ := append_e5 w4 w.heap.size _ F ⟨3, max now s3, 0, s1, s2⟩ (ownsRow_later (ownsRow_later HRow.out hBW) h4) hb4.size (by have := HLe.out; omega)
        obtain ⟨a5, c5, rfl, _⟩ := ownsRow_shape hrow5
        have hl1 : (F ++ [(⟨3, max now s3, 0, s1, s2⟩ : En)]).length = F.length + 1 := by simp
        rw [hl1] at hr5
        refine ⟨a5, c5, w5, hr5, ?_, hb4.trans hB5⟩
        rw [HS.out, ← hl1]
        exact hrow5
      rw [hW] at hRel
      clear hB0W hBW HRow
      go_wp2_with fail
      case inr =>
        refine (by exact hRel _ : Calls _ _ _ _ _).mono ?_
        rintro e w4 ⟨rfl, hB4⟩
        obtain ⟨a5, c5, w5, hr5, hrow5, hB5⟩ := HAp.out now (by omega) w4 (by rw [hW]; exact hB4)
        have HR5 : Hid (ERow w5 w.heap.size (.slice a5 (F.length + 1) c5) (endsE (l.take (k + 1)) now)) := hrow5
        clear hrow5 hRel
        go_wp2_with (at_builtin; refine wpl_append_run rfl _ _ 63 rfl _ _ rfl rfl hr5 ?_)
        go_roundg (l.length - (k + 1))
        case rel => exact ⟨k + 1, _, by omega, rfl, by go_num, HR5.out, hB5⟩
        case measure => omega
      case inl =>
        refine (by exact hRel _ : Calls _ _ _ _ _).mono ?_
        rintro e w4 ⟨rfl, hB4⟩
        obtain ⟨a5, c5, w5, hr5, hrow5, hB5⟩ := HAp.out s3 (by omega) w4 (by rw [hW]; exact hB4)
        have HR5 : Hid (ERow w5 w.heap.size (.slice a5 (F.length + 1) c5) (endsE (l.take (k + 1)) now)) := hrow5
        clear hrow5 hRel
        go_wp2_with (at_builtin; refine wpl_append_run rfl _ _ 63 rfl _ _ rfl rfl hr5 ?_)
        go_roundg (l.length - (k + 1))
        case rel => exact ⟨k + 1, _, by omega, rfl, by go_num, HR5.out, hB5⟩
        case measure => omega

end Go.Proofs.YtafkkehcacdodaaGreat
