/- The index asked: who had the block. -/
import Derived.Test.YtkkcpofaiocjpabTraSeq2
set_option maxRecDepth 100000
namespace Go.Proofs.Ytkkcpofaiocjpab
open Go.RowKit Go.Shelf

theorem collect_ok (w : World) (qv : Value) (H : List Int) (I : World → Prop) (hI : ∀ W, Below w.heap.size w W → I W) (hseq : ∀ n, IterM n Try.prog 15 #[qv] #[] H.length I (Tells H)) (hH : H.length ≤ 1000) :
    Calls Try.prog 24 #[.func (.func 15) #[qv] #[]] w fun e w' => ∃ v, e = .returned v ∧ URow w' w.heap.size v H ∧ Below w.heap.size w w' := by
  have HA : Hid (Calls Try.prog 29 #[.slice none 0 0, .func (.func 15) #[qv] #[]] w fun e w' => ∃ v, e = .returned v ∧ URow w' w.heap.size v H ∧ Below w.heap.size w w') := (callsIn_wide (n := 10)).1 (appendSeq_in 10 w qv H I hI hseq hH)
  clear hI hseq
  go_enter Try.func24, Try.ntmps24
  go_wp2_with (go_at_call 29; refine HA.out.mono ?_; rintro e w2 ⟨v, rfl, hr, hb⟩; have HR : Hid (URow w2 w.heap.size v H) := hr; have HB : Hid (Below w.heap.size w w2) := hb; clear hr hb)
  go_ret
  exact ⟨_, rfl, HR.out, HB.out⟩

theorem sorted_ok (w : World) (qv : Value) (H : List Int) (I : World → Prop) (hI : ∀ W, Below w.heap.size w W → I W) (hseq : ∀ n, IterM n Try.prog 15 #[qv] #[] H.length I (Tells H)) (hH : H.length ≤ 1000) (hok : ∀ x ∈ H, OkU x) :
    Calls Try.prog 16 #[.func (.func 15) #[qv] #[]] w fun e w' => ∃ v r, e = .returned v ∧ r.Perm H ∧ r.Pairwise (· ≤ ·) ∧ URow w' w.heap.size v r ∧ Below w.heap.size w w' := by
  have HC : Hid (Calls Try.prog 24 #[.func (.func 15) #[qv] #[]] w fun e w' => ∃ v, e = .returned v ∧ URow w' w.heap.size v H ∧ Below w.heap.size w w') := collect_ok w qv H I hI hseq hH
  have HOK : Hid (∀ x ∈ H, OkU x) := hok
  clear hI hseq hok
  go_enter Try.func16, Try.ntmps16
  go_wp2_with (first
    | (go_at_call 24; refine HC.out.mono ?_; rintro e w2 ⟨v, rfl, hr, hb⟩; have HS := sortU_of 1000 (by omega) w2 w.heap.size v H hr HOK.out hH; have HB : Hid (Below w.heap.size w w2) := hb; clear hr hb)
    | (go_at_call 25; refine HS.mono ?_; clear HS; rintro e w3 ⟨rfl, r, hp, hup, hr3, hb3⟩; have HP : Hid (r.Perm H ∧ r.Pairwise (· ≤ ·)) := ⟨hp, hup⟩; have HR : Hid (URow w3 w.heap.size v r) := hr3; have HB3 : Hid (Below w.heap.size w2 w3) := hb3; clear hp hup hr3 hb3))
  go_ret
  exact ⟨_, r, rfl, HP.out.1, HP.out.2, HR.out, HB.out.trans HB3.out⟩

/-- The subscribers that a tree tells are those who had the block. -/
theorem told_who {l row : List Sp} {out : List Ru} {F : Nat → Ru} {a k tt : Int} {r : List Int} (hperm : row.Perm (rowOf l a k)) (hro : RunsOf row out) (hF : ∀ j x, out[j]? = some x → (F j).sub = x.sub ∧ (F j).frm = x.frm ∧ (F j).til = x.til) (htt : tt ≤ 9223372036854775807)
    (hr : r.Perm (hitsF F tt 0 out.length)) (hup : r.Pairwise (· ≤ ·)) : WhoOf l a k tt r := by
  rw [hitsF_list out F tt hF] at hr
  obtain ⟨hnd, hmem⟩ := runs_told hro tt
  refine ⟨?_, fun x => ?_⟩
  · have h1 : r.Nodup := hr.nodup_iff.2 hnd
    exact (hup.and h1).imp (fun h => by omega)
  · rw [hr.mem_iff, hmem x, mem_subsAt]
    constructor
    · rintro ⟨s, hs, h1, h2, h3⟩
      obtain ⟨q1, q2, q3⟩ := mem_rowOf.1 (hperm.mem_iff.1 hs)
      refine ⟨s, q1, hit_iff.2 ⟨q2, h2, ?_⟩, h1⟩
      have := or_end (s := s) htt
      rw [decide_eq_true h3] at this
      simpa using this
    · rintro ⟨s, hs, h1, h2⟩
      obtain ⟨q1, q2, q3⟩ := hit_iff.1 h1
      have h3 : tt ≤ endS s := by
        have := or_end (s := s) htt
        have h4 : (s.opn || decide (s.til ≥ tt)) = true := by simpa using q3
        rw [h4] at this
        simpa using this.symm
      exact ⟨s, hperm.mem_iff.2 (mem_rowOf.2 ⟨hs, q1, by simp only [fullB, decide_eq_true_eq]; omega⟩), h2, q2, h3⟩

theorem told_none {l : List Sp} {a k tt : Int} (h : rowOf l a k = []) (htt : tt ≤ 9223372036854775807) : WhoOf l a k tt [] :=
  told_who (row := []) (out := []) (F := fun _ => default) (by rw [h]) runsOf_nil (by simp) htt (by simp [hitsF_zero]) List.Pairwise.nil

set_option maxHeartbeats 2000000 in
theorem iwho_ok (w : World) (x base mb n : Nat) (l : List Sp) (f : Pl → Option Value) (a k tt : Int) (hx : w.cell? ⟨x, 0, none⟩ = some (.map (some mb))) (h : IndexOf w base mb n l f) (hP : OkP (a, k)) (htt : tt ≤ 9223372036854775807) :
    Calls Try.prog 7 #[.pointer (some ⟨x, 0, none⟩), .int .u32 a, .int .i64 k, .int .i64 tt] w fun e w' => ∃ v r, e = .returned v ∧ WhoOf l a k tt r ∧ URow w' w.heap.size v r ∧ Below w.heap.size w w' := by
  have HM : Hid (KMap 46 plK w mb n f) := h.map
  have hz := Try.zeroValue47
  cases hf : f (a, k) with
  | some tr =>
    obtain ⟨row, hperm, g, cap, out, F, rfl, hb, hg, hcap, hol, hro, hF, hFo, htop⟩ := h.tree (a, k) tr hf
    have hup : ∀ i j, i ≤ j → j < out.length → (F i).frm ≤ (F j).frm := fun i j hij hj => by
      have hi : i < out.length := by omega
      rw [(hFo i _ (List.getElem?_eq_getElem hi)).2.1, (hFo j _ (List.getElem?_eq_getElem hj)).2.1]
      rcases Nat.eq_or_lt_of_le hij with e | e
      · subst e; exact Int.le_refl _
      · exact List.pairwise_iff_getElem.1 hro.up i j hi hj e
    have hok : ∀ u ∈ hitsF F tt 0 out.length, OkU u := fun u hu => by
      rw [hitsF_list out F tt hFo] at hu
      obtain ⟨r, hr, rfl⟩ := List.mem_map.1 hu
      have := hro.ok r (List.mem_filter.1 hr).1
      exact ⟨this.sub0, this.sub1⟩
    have hHl : (hitsF F tt 0 out.length).length ≤ 1000 := by
      rw [hitsF_list out F tt hFo, List.length_map]
      exact Nat.le_trans (List.length_filter_le _ _) hol
    have HS : Hid (∀ w', Below w.heap.size w w' → Calls Try.prog 16 #[.func (.func 15) #[quV (some ⟨g, 0, none⟩) out.length cap tt] #[]] w' fun e w'' => ∃ v r, e = .returned v ∧ r.Perm (hitsF F tt 0 out.length) ∧ r.Pairwise (· ≤ ·) ∧ URow w'' w'.heap.size v r ∧ Below w'.heap.size w' w'') := fun w' hb' =>
      sorted_ok w' _ _ (fun W => RuF W g out.length F) (fun W hW => hF.same ((hW.block g (by have := hb'.size; omega)).trans (hb'.block g hg))) (fun n => each_iter n g out.length cap F tt (by omega) hcap htop hup) hHl hok
    have HT : Hid (∀ r : List Int, r.Perm (hitsF F tt 0 out.length) → r.Pairwise (· ≤ ·) → WhoOf l a k tt r) := fun r h1 h2 => told_who hperm hro hFo htt h1 h2
    have HF : Hid (f (a, k) = some (.slice (some ⟨g, 0, none⟩) out.length cap)) := hf
    clear h hup hok hHl hperm hro hF hFo htop hf
    go_enter Try.func7, Try.ntmps7
    go_wp2_with (first
      | (at_lookup; refine wpl_look _ rfl _ _ 40 rfl placeK 47 Try.underlying40 (hz _) rfl HM.out (a, k) hP rfl ?_; rw [HF.out])
      | (go_at_call 16; refine (HS.out w (Below.refl _ _)).mono ?_; rintro e w2 ⟨v, r, rfl, hp, hpw, hr2, hb2⟩; have HP2 : Hid (WhoOf l a k tt r) := HT.out r hp hpw; have HR2 : Hid (URow w2 w.heap.size v r) := hr2; have HB2 : Hid (Below w.heap.size w w2) := hb2; clear hp hpw hr2 hb2))
    go_ret
    exact ⟨_, r, rfl, HP2.out, HR2.out, HB2.out⟩
  | none =>
    have hT : WhoOf l a k tt [] := told_none (h.off (a, k) hP hf) htt
    have HS : Hid (Calls Try.prog 16 #[.func (.func 15) #[quV none 0 0 tt] #[]] w fun e w'' => ∃ v r, e = .returned v ∧ r.Perm [] ∧ r.Pairwise (· ≤ ·) ∧ URow w'' w.heap.size v r ∧ Below w.heap.size w w'') :=
      sorted_ok w _ [] (fun _ => True) (fun _ _ => trivial) (fun n => each_nil n tt _) (by simp) (by simp)
    have HT : Hid (WhoOf l a k tt []) := hT
    have HF : Hid (f (a, k) = none) := hf
    clear h hT hf
    go_enter Try.func7, Try.ntmps7
    go_wp2_with (first
      | (at_lookup; refine wpl_look _ rfl _ _ 40 rfl placeK 47 Try.underlying40 (hz _) rfl HM.out (a, k) hP rfl ?_; rw [HF.out])
      | (go_at_call 16; refine HS.out.mono ?_; rintro e w2 ⟨v, r, rfl, hp, hpw, hr2, hb2⟩; have hr0 : r = [] := hp.eq_nil; subst hr0; have HR2 : Hid (URow w2 w.heap.size v []) := hr2; have HB2 : Hid (Below w.heap.size w w2) := hb2; clear hp hpw hr2 hb2))
    go_ret
    exact ⟨_, [], rfl, HT.out, HR2.out, HB2.out⟩

end Go.Proofs.Ytkkcpofaiocjpab
