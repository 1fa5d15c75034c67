/- Segments. -/
import Derived.Test.YtlgkndebhafliaaStrAll
set_option maxRecDepth 100000
namespace Go.Proofs.Ytlgkndebhafliaa
open Go.RowKit

def segM (rs : List (Nat × List Int)) : Nat := rs.foldl (fun m x => max m (x.1 / 16 + 1)) 0
def segC (rs : List (Nat × List Int)) (j : Nat) : Nat := rs.countP fun x => x.1 / 16 == j
/-- How many records each segment has. -/
def segL (rs : List (Nat × List Int)) : List Int := (List.range (segM rs)).map fun j => (segC rs j : Int)

theorem segM_snoc (rs : List (Nat × List Int)) (x : Nat × List Int) : segM (rs ++ [x]) = max (segM rs) (x.1 / 16 + 1) := by simp [segM]
theorem segC_snoc (rs : List (Nat × List Int)) (x : Nat × List Int) (j : Nat) : segC (rs ++ [x]) j = segC rs j + if x.1 / 16 = j then 1 else 0 := by
  simp only [segC, List.countP_append, List.countP_singleton]
  simp
theorem segL_len (rs : List (Nat × List Int)) : (segL rs).length = segM rs := by simp [segL]

theorem segM_mono (rs : List (Nat × List Int)) : ∀ (m : Nat), m ≤ rs.foldl (fun m x => max m (x.1 / 16 + 1)) m := by
  induction rs with
  | nil => intro m; exact Nat.le_refl _
  | cons x r ih => intro m; exact Nat.le_trans (Nat.le_max_left _ _) (ih _)

theorem segM_ge (rs : List (Nat × List Int)) : ∀ (m : Nat) (x : Nat × List Int), x ∈ rs → x.1 / 16 + 1 ≤ rs.foldl (fun m x => max m (x.1 / 16 + 1)) m := by
  induction rs with
  | nil => intro m x hx; cases hx
  | cons y r ih =>
    intro m x hx
    rcases List.mem_cons.1 hx with rfl | hx
    · exact Nat.le_trans (Nat.le_max_right _ _) (segM_mono r _)
    · exact ih _ x hx

theorem segC_past (rs : List (Nat × List Int)) (j : Nat) (h : segM rs ≤ j) : segC rs j = 0 := by
  unfold segC
  rw [List.countP_eq_zero]
  intro x hx
  have := segM_ge rs 0 x hx
  unfold segM at h
  simp; omega

theorem segM_le (rs : List (Nat × List Int)) (n : Nat) (h : ∀ x ∈ rs, x.1 < n) : ∀ m, m ≤ n → rs.foldl (fun m x => max m (x.1 / 16 + 1)) m ≤ n := by
  induction rs with
  | nil => intro m hm; exact hm
  | cons y r ih =>
    intro m hm
    have := h y (by simp)
    exact ih (fun x hx => h x (by simp [hx])) _ (by show max m (y.1 / 16 + 1) ≤ n; omega)

theorem segL_step (rs : List (Nat × List Int)) (x : Nat × List Int) (j : Nat) (h : segM rs + j = max (segM rs) (x.1 / 16 + 1)) :
    (segL rs ++ List.replicate j 0).set (x.1 / 16) ((segL rs ++ List.replicate j 0).getD (x.1 / 16) 0 + 1) = segL (rs ++ [x]) := by
  have hl : (segL rs ++ List.replicate j (0 : Int)).length = segM rs + j := by simp [segL_len]
  have hg : ∀ i, i < segM rs + j → (segL rs ++ List.replicate j (0 : Int)).getD i 0 = segC rs i := by
    intro i hi
    by_cases hi2 : i < segM rs
    · rw [getD_app_left _ _ _ (by rw [segL_len]; exact hi2)]
      simp [segL, List.getD, hi2]
    · rw [getD_app_right _ _ _ (by rw [segL_len]; omega), segC_past rs i (by omega)]
      simp [List.getD, List.getElem?_replicate]
      split <;> rfl
  apply List.ext_getElem
  · rw [List.length_set, hl, segL_len, segM_snoc]; exact h
  · intro i h1 h2
    rw [List.length_set, hl] at h1
    rw [List.getElem_set]
    have hR : (segL (rs ++ [x]))[i] = (segC (rs ++ [x]) i : Int) := by simp [segL]
    rw [hR, segC_snoc]
    have hgi := hg i h1
    have hgi' : (segL rs ++ List.replicate j (0 : Int))[i]'(by rw [hl]; exact h1) = segC rs i := by
      rw [← hgi]; simp [List.getD, List.getElem?_eq_getElem (show i < (segL rs ++ List.replicate j (0 : Int)).length by rw [hl]; exact h1)]
    by_cases e : x.1 / 16 = i
    · rw [if_pos e, if_pos e, e, hgi]; simp
    · rw [if_neg e, if_neg e, hgi']; simp

theorem info3 : (Try.prog.info? 3).map (fun i => (i.zero, i.size, i.bytes)) = some (some (.int .i64 0), 1, 8) := by kernel_rfl

/-- A row of numbers of the call's own. -/
def OwnI (w : World) (base : Nat) (v : Value) (l : List Int) : Prop := w.ownsRow base 3 1 v l.length (l.map (Value.int .i64))

theorem OwnI.cell {w : World} {base g cap n : Nat} {l : List Int} (h : OwnI w base (.slice (some ⟨g, 0, none⟩) n cap) l) (hn : l.length = n) (j : Nat) (hj : j < l.length) : w.cell? ⟨g, j, none⟩ = some (.int .i64 (l.getD j 0)) := by
  subst hn
  have h' : w.ownsRow base 3 1 (.slice (some ⟨g, 0, none⟩) l.length cap) l.length (l.map (Value.int .i64)) := h
  rw [h'.cellAt j (by omega)]
  simp [List.getElem?_eq_getElem hj]

theorem segL_nonneg (rs : List (Nat × List Int)) (j i : Nat) : 0 ≤ (segL rs ++ List.replicate j (0 : Int)).getD i 0 ∧ (segL rs ++ List.replicate j (0 : Int)).getD i 0 ≤ rs.length := by
  by_cases hi2 : i < segM rs
  · rw [getD_app_left _ _ _ (by rw [segL_len]; exact hi2)]
    have := List.countP_le_length (p := fun x : Nat × List Int => x.1 / 16 == i) (l := rs)
    simp [segL, List.getD, hi2, segC]
    omega
  · rw [getD_app_right _ _ _ (by rw [segL_len]; omega)]
    simp [List.getD, List.getElem?_replicate]
    split <;> simp <;> omega

set_option maxHeartbeats 4000000 in
theorem segments_ok (w : World) (tag : Nat → Nat) (base o D : Nat) (t : Sd) (q : SL) (h : PO w tag base o D t q) (n : Nat) (ht : t.Ok n) (hn : n ≤ 4096) (hrec : t.recs.length ≤ 900000) :
    Calls Try.prog 62 #[.pointer (some ⟨q.S, 0, none⟩)] w fun e w' => ∃ v, e = .returned v ∧ OwnI w' w.heap.size v (segL t.recs) ∧ Below w.heap.size w w' := by
  obtain ⟨i0, hi, hz0, hz1, hz2⟩ := info_parts info3
  have HP : Hid (PO w tag base o D t q) := h
  have HM := smade_ok w tag base o D t q h
  have h3 := h.s3
  obtain ⟨ra, rc, hrv, hr1, hr2⟩ := h.rform
  have HRV : Hid (q.rv = .slice ra t.recs.length rc) := hrv
  rw [hrv] at h3
  clear hrv h
  unfold maxLen at hr2
  go_enter Try.func62, Try.ntmps62
  go_wp2_with (go_at_call 40; refine HM.mono ?_; rintro e w' ⟨rfl, hx⟩; have HX1 : Hid (w' = w) := hx; clear hx; rw [HX1.out])
  go_loopw [3, 15] (fun v i wr => ∃ k : Nat, k ≤ t.recs.length ∧ i = .int .i64 k ∧ OwnI wr w.heap.size v (segL (t.recs.take k)) ∧ Below w.heap.size w wr) (fun _ i _ => t.recs.length - (intOf i).toNat)
  case atStart => exact ⟨0, Nat.zero_le _, rfl, World.ownsRow_nil _ _ _ _, Below.refl _ _⟩
  case round =>
    obtain ⟨k, hk, rfl, hO, hB⟩ := hrel
    by_cases hlt : k < t.recs.length
    · have hltI : (k : Int) < (t.recs.length : Int) := by omega
      obtain ⟨g, oo, cap, hvv, _, _, hr⟩ := HP.out.rAt (by omega)
      rw [HRV.out] at hvv
      simp only [Value.slice.injEq, true_and] at hvv
      obtain ⟨rfl, rfl⟩ := hvv
      obtain ⟨r1, r2⟩ := hr k hlt
      have r1' := cell_later hB r1
      have r2' := cell_later hB r2
      have hbt := HP.out.bt k hlt
      have hmem : t.recs.getD k (0, []) ∈ t.recs := by rw [List.getD_eq_getElem?_getD, List.getElem?_eq_getElem hlt]; exact List.getElem_mem hlt
      have hrk := ht.rc _ hmem
      have hts : t.recs.take (k + 1) = t.recs.take k ++ [t.recs.getD k (0, [])] := by
        rw [List.take_succ_eq_append_getElem hlt]; simp [List.getD, List.getElem?_eq_getElem hlt]
      have hml : segM (t.recs.take k) ≤ 4096 := Nat.le_trans (segM_le _ n (fun x hx => (ht.rc x (List.mem_of_mem_take hx)).1) 0 (Nat.zero_le _)) hn
      have HST : Hid (∀ j, segM (t.recs.take k) + j = max (segM (t.recs.take k)) ((t.recs.getD k (0, [])).1 / 16 + 1) → (segL (t.recs.take k) ++ List.replicate j 0).set ((t.recs.getD k (0, [])).1 / 16) ((segL (t.recs.take k) ++ List.replicate j 0).getD ((t.recs.getD k (0, [])).1 / 16) 0 + 1) = segL (t.recs.take (k + 1))) := by
        intro j hj
        rw [hts]
        exact segL_step _ _ j hj
      have HLN : Hid (∀ j, (segL (t.recs.take k) ++ List.replicate j (0 : Int)).length = segM (t.recs.take k) + j) := by intro j; simp [segL_len]
      have HNN : Hid (∀ j i, 0 ≤ (segL (t.recs.take k) ++ List.replicate j (0 : Int)).getD i 0 ∧ (segL (t.recs.take k) ++ List.replicate j (0 : Int)).getD i 0 ≤ (t.recs.take k).length) := fun j i => segL_nonneg _ j i
      have htl : (t.recs.take k).length = k := by rw [List.length_take]; omega
      rw [htl] at HNN
      obtain ⟨ya, yc, hyv, _⟩ := bts_src hbt
      have hat : (t.recs.getD k (0, [])).1 < 4096 := by omega
      generalize (t.recs.getD k (0, [])).1 = at_ at *
      generalize (t.recs.getD k (0, [])).2 = x at *
      rw [hyv] at r2'
      clear hyv hbt r1 r2 hr hmem hrk hts
      generalize hSL : segL (t.recs.take k) = L at *
      generalize hSM : segM (t.recs.take k) = M at *
      clear hSL hSM
      have hd : ((at_ : Int) / 16) = ((at_ / 16 : Nat) : Int) := by omega
      have HDV : Hid ((at_ : Int) / 16 = ((at_ / 16 : Nat) : Int)) := hd
      clear hd
      have hBx := hB.trans ((below_alloc wr (.cells #[.int .i64 at_, .slice ya x.length yc] 81)).mono hB.size)
      have hO1 : OwnI (wr.alloc (.cells #[.int .i64 at_, .slice ya x.length yc] 81)) w.heap.size _ L := World.ownsRow.alloc hO _
      clear hO hB
      go_wp2
      rw [HDV.out]
      generalize hm : at_ / 16 = m at *
      have hm256 : m < 256 := by omega
      have HM1 := HLN.out 0
      rw [List.replicate_zero, List.append_nil, Nat.add_zero] at HM1
      have HLM : Hid (L.length = M) := HM1
      clear HM1 HDV hm hat
      go_loopg [3] (max M (m + 1) - M) (fun gk v wr2 => ∃ j : Nat, gk = max M (m + 1) - (M + j) ∧ M + j ≤ max M (m + 1) ∧ OwnI wr2 w.heap.size v (L ++ List.replicate j 0) ∧ Below w.heap.size w wr2)
      case atStart => exact ⟨0, by omega, by omega, by simpa using hO1, hBx⟩
      case round =>
        obtain ⟨j, rfl, hj, hO, hB⟩ := hrel
        have hln := HLN.out j
        by_cases hlen : M + j ≤ m
        · have hlenI : (M : Int) + (j : Int) ≤ (m : Int) := by omega
          have hO2 : (wr.alloc (.cells #[.int .i64 0] 3)).ownsRow w.heap.size 3 1 _ (L ++ List.replicate j (0 : Int)).length ((L ++ List.replicate j (0 : Int)).map (Value.int .i64)) := World.ownsRow.alloc hO _
          obtain ⟨v', w1, hrun, ho, hg, _⟩ := run_append_own (P := Try.prog) (wr.alloc (.cells #[.int .i64 0] 3)) w.heap.size 87 87 3 i0 (.int .i64 0) 1 8 Try.underlying87 hi hz0 hz1 hz2 rfl (by decide) _ _ _ hO2 ⟨wr.heap.size, 0, none⟩ 1 1 [.int .i64 0] rfl (news_new wr #[.int .i64 0] 3) (by intro u hu; simp at hu; subst hu; rfl) (by rw [hln]; unfold maxLen; omega) (by rw [hln]; omega) (by have := hB.size; simp; omega)
          have R1 : Hid (OwnI w1 w.heap.size v' (L ++ List.replicate (j + 1) 0)) := by
            show OwnI _ _ _ _
            unfold OwnI
            rw [List.replicate_succ', ← List.append_assoc, List.length_append, List.map_append]
            exact ho
          have R2 : Hid (Below w.heap.size w w1) := (hB.alloc hB.size _).grown hg (by have := hB.size; simp; omega) (fun i hi => (hO.lt i hi).1)
          obtain ⟨av, cv, hvv⟩ := win_shape (win_of_owns hO)
          rw [hln] at hvv
          rw [hvv] at hrun ⊢
          clear ho hg hO2 hO hB hvv
          go_wp2_with (at_builtin; refine wpl_append_run rfl _ _ 87 rfl _ _ rfl rfl hrun ?_)
          go_roundg (max M (m + 1) - (M + (j + 1)))
          case rel => exact ⟨j + 1, rfl, by omega, R1.out, R2.out⟩
          case measure => omega
        · have hlenI : ¬ (M : Int) + (j : Int) ≤ (m : Int) := by omega
          have heq : M + j = max M (m + 1) := by omega
          have hST := HST.out j heq
          have hnn := HNN.out j m
          rcases hO.2 with ⟨_, h0⟩ | ⟨G, cp, cur, hv, hGb, hGh, hGn, hGm, _⟩
          · rw [hln] at h0; omega
          rw [hln] at hv hGn
          have hO' : OwnI wr w.heap.size (.slice (some ⟨G, 0, none⟩) (M + j) cp) (L ++ List.replicate j 0) := by rw [← hv]; exact hO
          have hc := hO'.cell hln m (by rw [hln]; omega)
          have hfz : wr.frozen? ⟨G, m, none⟩ = false := by
            have : wr.ownsRow w.heap.size 3 1 (.slice (some ⟨G, 0, none⟩) (M + j) cp) (M + j) ((L ++ List.replicate j (0 : Int)).map (Value.int .i64)) := by have := hO'; unfold OwnI at this; rwa [hln] at this
            exact this.frozenAt m
          have HRes : Hid (∀ c : Int, c = (L ++ List.replicate j (0 : Int)).getD m 0 + 1 → OwnI (wr.setCell ⟨G, m, none⟩ (.int .i64 c)) w.heap.size (.slice (some ⟨G, 0, none⟩) (M + j) cp) (segL (t.recs.take (k + 1)))) := by
            rintro c rfl
            rw [← hST]
            have : wr.ownsRow w.heap.size 3 1 (.slice (some ⟨G, 0, none⟩) (M + j) cp) (M + j) ((L ++ List.replicate j (0 : Int)).map (Value.int .i64)) := by have := hO'; unfold OwnI at this; rwa [hln] at this
            have := (this.stored m (.int .i64 ((L ++ List.replicate j (0 : Int)).getD m 0 + 1))).1
            unfold OwnI
            rw [List.length_set, hln, List.map_set]
            exact this
          have HB2 : Hid (∀ c : Int, Below w.heap.size w (wr.setCell ⟨G, m, none⟩ (.int .i64 c))) := fun c => hB.setCell hGb _
          generalize (L ++ List.replicate j (0 : Int)).getD m 0 = X at *
          obtain ⟨x0, x1⟩ := hnn
          unfold maxLen at hGm
          rw [hv]
          clear hO hO' hB hv hST hGh
          go_wp2
          go_roundw
          case rel => exact ⟨k + 1, by omega, by go_num, HRes.out _ rfl, HB2.out _⟩
          case measure => simp [intOf]; omega
    · have hke : k = t.recs.length := by omega
      subst hke
      rw [List.take_length] at hO
      go_wp2
      go_ret
      exact ⟨_, rfl, hO, hB⟩

end Go.Proofs.Ytlgkndebhafliaa
