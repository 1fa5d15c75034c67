/- All. -/
import Derived.Test.YtafkkehcacdodaaGreatStrSmall
import Derived.Deep.LoopGhost
set_option maxRecDepth 100000
namespace Go.Proofs.YtafkkehcacdodaaGreat
open Go.RowKit

/-- The i-th record's cells. -/
theorem PO.rAt {w : World} {tag : Nat → Nat} {base o D : Nat} {t : Sd} {q : SL} (h : PO w tag base o D t q) (hne : 0 < t.recs.length) : ∃ g oo cap, q.rv = .slice (some ⟨g, oo, none⟩) t.recs.length cap ∧ t.recs.length ≤ cap ∧ cap ≤ maxLen ∧
    ∀ i, i < t.recs.length → w.cell? ⟨g, oo + i * 2, none⟩ = some (.int .i64 (t.recs.getD i (0, [])).1) ∧ w.cell? ⟨g, oo + i * 2 + 1, none⟩ = some (q.vs.getD i undef) := by
  rcases h.wR.2 with ⟨_, h0⟩ | ⟨g, oo, cap, cs, h1, hb, h2, h3, h4, h5⟩
  · omega
  refine ⟨g, oo, cap, h1, h2, h3, fun i hi => ?_⟩
  obtain ⟨e1, e2⟩ := rcells_at t.recs q.vs h.lv i hi
  have := hb.range oo (t.recs.length * 2)
  rw [h5] at this
  exact ⟨this (i * 2) _ e1, by have := this (i * 2 + 1) _ e2; rwa [← Nat.add_assoc] at this⟩

theorem lst_made {w : World} {base : Nat} {v : Value} (h : w.ownsRow base 39 1 v 0 []) : Lst w base v [] [] := by
  refine ⟨win_of_owns h, fun g hg => ?_, fun i hi => by simp at hi, fun i hi => by simp at hi⟩
  rcases h.2 with ⟨rfl, _⟩ | ⟨g', c, cur, rfl, hb, _⟩
  · simp [Value.ownBlock] at hg
  · simp [Value.ownBlock] at hg; omega

def bodies (t : Sd) : List (List Int) := t.recs.map Prod.snd

theorem bodies_len (t : Sd) : (bodies t).length = t.recs.length := by simp [bodies]

theorem bodies_take (t : Sd) (k : Nat) (h : k < t.recs.length) : (bodies t).take (k + 1) = (bodies t).take k ++ [(t.recs.getD k (0, [])).2] := by
  rw [List.take_succ_eq_append_getElem (by rw [bodies_len]; exact h)]
  simp [bodies, List.getD, List.getElem?_eq_getElem h]

set_option maxHeartbeats 4000000 in
theorem all_ok (w : World) (tag : Nat → Nat) (base o D : Nat) (t : Sd) (q : SL) (h : PO w tag base o D t q) (n : Nat) (ht : t.Ok n) (hrec : t.recs.length ≤ 900000) :
    Calls Tryz.prog 32 #[.pointer (some ⟨q.S, 0, none⟩)] w fun e w' => ∃ v vs, e = .returned v ∧ Lst w' w.heap.size v vs (bodies t) ∧ Below w.heap.size w w' := by
  obtain ⟨i0, hi, hz0, hz1, hz2⟩ := info_parts infoB
  have HP : Hid (PO w tag base o D t q) := h
  have HM := smade_ok w tag base o D t q h
  have h3 := h.s3
  obtain ⟨ra, rc, hrv, hr1, hr2⟩ := h.rform
  have HRV : Hid (q.rv = .slice ra t.recs.length rc) := hrv
  rw [hrv] at h3
  clear hrv h
  unfold maxLen at hr2
  go_enter Tryz.func32, Tryz.ntmps32
  go_wp2_with (first
    | (go_at_call 71; refine HM.mono ?_; rintro e w' ⟨rfl, hx⟩; have HX1 : Hid (w' = w) := hx; clear hx; rw [HX1.out])
    | (at_make; refine wpList_make_own _ rfl _ _ 79 rfl w.heap.size 39 i0 (.slice none 0 0) 1 Tryz.underlying79 hi hz0 hz1 .i64 .i64 _ t.recs.length rfl rfl rfl (by rw [hz2]; omega) (by unfold maxLen; omega) (Nat.le_refl _) ?_; intro w1 hown hgrow; have hB1 : Below w.heap.size w w1 := (Below.refl _ _).grown hgrow (Nat.le_refl _) (fun k hk => by cases hk); have g3 := cell_later hB1 h3))
  go_loopw [3, 20] (fun v i wr => ∃ (k : Nat) (vs : List Value), k ≤ t.recs.length ∧ i = .int .i64 k ∧ Lst wr w.heap.size v vs ((bodies t).take k) ∧ Below w.heap.size w wr) (fun _ i _ => t.recs.length - (intOf i).toNat)
  case atStart => exact ⟨0, [], Nat.zero_le _, rfl, by rw [List.take_zero]; exact lst_made hown, hB1⟩
  case round =>
    obtain ⟨k, vs, hk, rfl, hL, hB⟩ := hrel
    by_cases hlt : k < t.recs.length
    · have hltI : (k : Int) < (t.recs.length : Int) := by omega
      obtain ⟨g, oo, cap, hvv, _, _, hr⟩ := HP.out.rAt (by omega)
      rw [HRV.out] at hvv
      simp only [Value.slice.injEq, true_and] at hvv
      obtain ⟨rfl, rfl⟩ := hvv
      obtain ⟨r1, r2⟩ := hr k hlt
      have r1' := cell_later hB r1
      have r2' := cell_later hB r2
      have hbt := HP.out.bt k hlt
      have hrk := ht.rc (t.recs.getD k (0, [])) (by rw [List.getD_eq_getElem?_getD, List.getElem?_eq_getElem hlt]; exact List.getElem_mem hlt)
      have HT : Hid ((bodies t).take (k + 1) = (bodies t).take k ++ [(t.recs.getD k (0, [])).2]) := bodies_take t k hlt
      have htl : ((bodies t).take k).length = k := by rw [List.length_take, bodies_len]; omega
      generalize (t.recs.getD k (0, [])).1 = at_ at *
      generalize (t.recs.getD k (0, [])).2 = x at *
      generalize q.vs.getD k undef = y at *
      obtain ⟨ya, yc, hyv, _⟩ := bts_src hbt
      subst hyv
      have hBx : Below wr.heap.size wr (wr.alloc (.cells #[.int .i64 at_, .slice ya x.length yc] 138)) := below_alloc _ _
      have hbx := hbt.later (hB.trans (hBx.mono hB.size))
      have HC := clone8_ok _ _ x hbx (fun e => by rw [e] at hrk; simp at hrk) (by omega)
      obtain ⟨av, cv, hvv⟩ := win_shape hL.win
      subst hvv
      have hxb : isBytes x := hrk.2.1
      have HPU : Hid (∀ w2 u, Owns w2 (wr.heap.size + 1) u x → Below (wr.heap.size + 1) (wr.alloc (.cells #[.int .i64 at_, .slice ya x.length yc] 138)) w2 → ∃ v' w3, (Builtin.append_ #[79, 79] 79 #[.slice av ((bodies t).take k).length cv, .slice (some ⟨w2.heap.size, 0, none⟩) 1 1]).run Tryz.prog (w2.alloc (.cells #[u] 39)) = .ok v' w3 ∧ Lst w3 w.heap.size v' (vs ++ [u]) ((bodies t).take (k + 1)) ∧
          Below w.heap.size w w3 ∧ (∃ a c, v' = .slice a (((bodies t).take k).length + 1) c)) := by
        intro w2 u hO hB2
        have hB2' : Below wr.heap.size wr w2 := hBx.trans (hB2.mono (by omega))
        obtain ⟨v', w3, e1, e2, _, e4, e5⟩ := hL.push hB2' (hO.bts hxb) (fun g hg => ⟨by have := (hO.lt g hg).1; omega, (hO.lt g hg).2⟩) hB.size (by rw [htl]; omega)
        refine ⟨v', w3, e1, by rw [HT.out]; exact e2, ?_, e5⟩
        exact (hB.trans ((hB2'.trans ((below_alloc w2 _).mono hB2'.size)).mono hB.size)).grown e4 (by have := hB2'.size; have := hB.size; simp; omega) (fun k hk => hL.blk k hk)
      rw [htl] at HPU
      rw [World.size_alloc] at HC
      clear hbt hL hB hbx hBx r1 r2 hr
      go_wp2_with (first
        | (go_at_call 72; refine HC.mono ?_; rintro e w2 ⟨u, rfl, hO, hB2⟩; obtain ⟨v', w3, hrun, hL3, hB3, ⟨a3, c3, rfl⟩⟩ := HPU.out w2 u hO hB2; obtain ⟨ua, uc, rfl, _⟩ := bts_src (hO.bts hxb))
        | (at_builtin; refine wpl_append_run rfl _ _ 79 rfl _ _ rfl rfl hrun ?_))
      go_roundw
      case rel => exact ⟨k + 1, _, by omega, by go_num, hL3, hB3⟩
      case measure => simp [intOf]; omega
    · have hke : k = t.recs.length := by omega
      subst hke
      have e : (bodies t).take t.recs.length = bodies t := List.take_of_length_le (by rw [bodies_len]; exact Nat.le_refl _)
      rw [e] at hL
      clear e
      go_wp2
      go_ret
      exact ⟨_, vs, rfl, hL, hB⟩

end Go.Proofs.YtafkkehcacdodaaGreat
