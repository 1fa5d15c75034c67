/- same: are two lists of records one? -/
import Derived.Test.YtlgkndebhafliaaStrRScan2
import Derived.Test.YtlgkndebhafliaaStrAwake
import Derived.BigQuiet
set_option maxRecDepth 100000
namespace Go.Proofs.Ytlgkndebhafliaa
open Go.RowKit
attribute [local go_sem ↓] Go.wp_at_zero Go.wp_at_succ

set_option maxHeartbeats 4000000 in
theorem same8_ok (w : World) (base1 base2 : Nat) (v v' : Value) (vs us : List Value) (ls : List (List Int)) (h : Lst w base1 v vs ls) (h' : Lst w base2 v' us ls) :
    Calls Try.prog 19 #[v, v'] w fun e w' => e = .returned (.bool true) ∧ ∃ nq, w' = w.drewN nq := by
  have H1 : Hid (Lst w base1 v vs ls) := h
  have H2 : Hid (Lst w base2 v' us ls) := h'
  obtain ⟨av, cv, rfl⟩ := win_shape h.win
  obtain ⟨au, cu, rfl⟩ := win_shape h'.win
  clear h h'
  go_enter Try.func19, Try.ntmps19
  go_wp2
  go_loopg [5] ls.length (fun gk i wr => ∃ (k nq : Nat), k + gk = ls.length ∧ i = .int .i64 k ∧ wr = w.drewN nq)
  case atStart => exact ⟨0, 0, by omega, rfl, rfl⟩
  case round =>
    obtain ⟨k, nq, hk, rfl, rfl⟩ := hrel
    by_cases hlt : k < ls.length
    case neg =>
      have hge : ¬ (k : Int) < (ls.length : Int) := by omega
      go_wp2
      go_ret
      exact ⟨rfl, nq, rfl⟩
    have hltI : (k : Int) < (ls.length : Int) := by omega
    obtain ⟨B1, O1, d1, e1, g1, g2, g3⟩ := H1.out.read (by omega)
    obtain ⟨B2, O2, d2, e2, f1, f2, f3⟩ := H2.out.read (by omega)
    injection e1 with e1a _ e1c
    injection e2 with e2a _ e2c
    subst e1a; subst e1c; subst e2a; subst e2c
    unfold maxLen at g2 f2
    have c1 := g3 k hlt
    have c2 := f3 k hlt
    have hb1 := H1.out.bts k hlt
    have hb2 := H2.out.bts k hlt
    have HS : ∀ n, Calls Try.prog 15 #[vs.getD k undef, us.getD k undef] ((w.drewN nq).drewN n) fun e w' => e = .returned (.bool true) ∧ ∃ nq', w' = ((w.drewN nq).drewN n).drewN nq' := fun n => by
      rw [World.drewN_drewN]
      have := same_one (w.drewN (nq + n)) _ _ _ _ (hb1.later (below_drewN w _)) (hb2.later (below_drewN w _))
      rwa [show sameB (ls.getD k []) (ls.getD k []) = true by unfold sameB; simp] at this
    obtain ⟨z1, z2, hz, _⟩ := bts_src hb1
    obtain ⟨y1, y2, hy, _⟩ := bts_src hb2
    rw [hz] at c1 HS
    rw [hy] at c2 HS
    clear hz hy hb1 hb2 g3 f3
    generalize (ls.getD k []).length = m at *
    have c1' : (w.drewN nq).cell? ⟨B1, O1 + k, none⟩ = some (.slice z1 m z2) := cell_later (below_drewN w nq) c1
    have c2' : (w.drewN nq).cell? ⟨B2, O2 + k, none⟩ = some (.slice y1 m y2) := cell_later (below_drewN w nq) c2
    obtain ⟨wx, hwx⟩ : ∃ x, x = w.drewN nq := ⟨_, rfl⟩
    rw [← hwx] at c1' c2' HS ⊢
    have HWX : Hid (wx = w.drewN nq) := hwx
    clear hwx c1 c2
    go_wp2_with fail
    go_quiet ((go_at_call 15; refine Calls.quiet_of (HS _)))
    rename_i nq2
    go_wp2
    go_roundg (ls.length - (k + 1))
    case rel => exact ⟨k + 1, _, by omega, by go_num, by rw [HWX.out, World.drewN_drewN]⟩
    case measure => omega

end Go.Proofs.Ytlgkndebhafliaa
