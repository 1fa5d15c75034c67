/- The tree of runs looked through. -/
import Derived.Test.YtkkcpofaiocjpabTraRange
import Derived.Sort.CutIn
set_option maxRecDepth 100000
namespace Go.Proofs.Ytkkcpofaiocjpab
open Go.RowKit Go.Shelf
attribute [local go_sem] Oper.semAt_some

theorem cell_obj {W : World} {b : Nat} {vs : Array Value} {T : TypeId} (h : W.heap[b]? = some (.cells vs T)) (i : Nat) : W.cell? ⟨b, i, none⟩ = vs[i]? := by
  simp [World.cell?, h]

/-- A question: a tree and a time. -/
@[reducible] def quV (ta : Option Addr) (tn tc : Nat) (tt : Int) : Value := .agg #[.slice ta tn tc, .int .i64 tt]

set_option maxHeartbeats 4000000 in
theorem under_in (l g N : Nat) (F : Nat → Ru) (tt : Int) (ta : Option Addr) (tn tc : Nat) (hN : N ≤ 100000) (H : List Int) (J : Nat → Mine → World → Prop) (hJF : ∀ k p W, J k p W → RuF W g N F)
    (hJB : ∀ k p W W', J k p W → Below W.heap.size W W' → J k p W') (hJA : ∀ k p W vs T, J k p W → J k ((W.heap.size, .cells vs T) :: p) (W.alloc (.cells vs T))) (hJD : ∀ k b o p W, J k ((b, o) :: p) W → J k p W ∧ W.heap[b]? = some o)
    (hY : ∀ m k p W x, H[k]? = some x → J k p W → YieldAt Fence.wide m Try.prog l #[.int .u32 x] W fun e W' => e = .returned (.bool true) ∧ J (k + 1) p W')
    (hup : ∀ i j, i ≤ j → j < N → (F i).frm ≤ (F j).frm) :
    ∀ (n lo o cap r k : Nat) (p : Mine) (W : World), o = lo * 4 → lo + n ≤ N → n ≤ cap → Tops F lo n → J k p W → (∀ i x, (hitsF F tt lo n)[i]? = some x → H[k + i]? = some x) →
      CallsIn Fence.wide r Try.prog 23 #[quV ta tn tc tt, .slice (some ⟨g, o, none⟩) n cap, .func (.yield l) #[] #[]] W fun e W' => e = .returned (.bool true) ∧ J (k + (hitsF F tt lo n).length) p W' := by
  intro n
  induction n using Nat.strongRecOn with
  | _ n ih =>
    intro lo o cap r k p W ho hlo hcap htop hJ hH
    by_cases hn : n = 0
    · subst hn
      have HP : Hid (J (k + (hitsF F tt lo 0).length) p (W.alloc (.cells #[.slice ta tn tc, .int .i64 tt] 52))) := hJB _ _ _ _ hJ (below_alloc _ _)
      clear hJ ih hH htop hJF hJB hJA hJD hY hup
      refine callsIn_of_wp Try.func23 rfl trivial ?_ rfl
      simp only [Try.ntmps23, List.size_toArray, List.length_cons, List.length_nil, Nat.reduceAdd, Nat.reduceSub, Array.replicate_succ, Array.replicate_zero, List.push_toArray, List.append_toArray, List.nil_append, List.cons_append]
      gi_wp2
      go_ret
      exact ⟨rfl, HP.out⟩
    obtain ⟨m, hm⟩ : ∃ m, m = n / 2 := ⟨_, rfl⟩
    obtain ⟨q, hq⟩ : ∃ q, q = n - (m + 1) := ⟨_, rfl⟩
    have hmI : (n : Int) / 2 = (m : Int) := by omega
    have hmn : m < n := by omega
    have hmnI : (m : Int) < (n : Int) := by omega
    have hn0 : ¬ (n : Int) = 0 := by omega
    have hmc : (m : Int) ≤ (cap : Int) := by omega
    have hwm : IntKind.i64.wrap (m : Int) = (m : Int) := IntWalk.i64_in _ (by omega)
    have hwm1 : IntKind.i64.wrap ((m : Int) + 1) = (m : Int) + 1 := IntWalk.i64_in _ (by omega)
    have hm1 : ((m : Int) + 1).toNat = m + 1 := by omega
    have hm2 : (m : Int) + 1 ≤ (n : Int) := by omega
    have hm3 : (0 : Int) ≤ (m : Int) + 1 := by omega
    have hm4 : (n : Int) ≤ (cap : Int) := by omega
    have hm5 : (m : Int) + 1 ≤ (cap : Int) := by omega
    rw [tops_iff F hn, ← hm] at htop
    obtain ⟨ht0, htL, htR⟩ := htop
    rw [show n - m - 1 = q by omega] at htR
    have hsplit := hitsF_split F tt lo n hn
    rw [← hm, show n - m - 1 = q by omega] at hsplit
    obtain ⟨rr, hrr⟩ : ∃ rr, rr = F (lo + m) := ⟨_, rfl⟩
    rw [← hrr] at hsplit ht0
    obtain ⟨c0, c1, c2, c3⟩ := (hJF _ _ _ hJ).1 (lo + m) (by omega)
    rw [show (lo + m) * 4 = o + m * 4 by omega, ← hrr] at c0 c1 c2 c3
    have hBx : Below W.heap.size W (W.alloc (.cells #[.slice ta tn tc, .int .i64 tt] 52)) := below_alloc _ _
    have e0 := cell_later hBx c0
    have e1 := cell_later hBx c1
    have e2 := cell_later hBx c2
    have e3 := cell_later hBx c3
    clear hBx
    have HSP : Hid (hitsF F tt lo n = hitsF F tt lo m ++ ((if ruHit rr tt = true then [rr.sub] else []) ++ hitsF F tt (lo + m + 1) q)) := hsplit
    have HL : Hid (∀ k p W, J k p W → (∀ i x, (hitsF F tt lo m)[i]? = some x → H[k + i]? = some x) → CallsIn Fence.wide (r - 1) Try.prog 23 #[quV ta tn tc tt, .slice (some ⟨g, o, none⟩) m cap, .func (.yield l) #[] #[]] W fun e W' => e = .returned (.bool true) ∧ J (k + (hitsF F tt lo m).length) p W') :=
      fun k p W h1 h2 => ih m hmn lo o cap (r - 1) k p W ho (by omega) (by omega) htL h1 h2
    have HR : Hid (∀ k p W oR cR, (q = 0 ∧ oR = o) ∨ oR = o + (m + 1) * 4 → q ≤ cR → J k p W → (∀ i x, (hitsF F tt (lo + m + 1) q)[i]? = some x → H[k + i]? = some x) → CallsIn Fence.wide (r - 1) Try.prog 23 #[quV ta tn tc tt, .slice (some ⟨g, oR, none⟩) q cR, .func (.yield l) #[] #[]] W fun e W' => e = .returned (.bool true) ∧ J (k + (hitsF F tt (lo + m + 1) q).length) p W') := by
      intro k p W oR cR hor hqc h1 h2
      rcases hor with ⟨h0, rfl⟩ | rfl
      · have hz : hitsF F tt (lo + m + 1) q = [] := by rw [h0]; rfl
        rw [hz]
        have := ih q (by omega) lo oR cR (r - 1) k p W ho (by omega) hqc (by rw [h0]; exact tops_zero _ _) h1 (by rw [h0]; simp [hitsF_zero])
        rw [show hitsF F tt lo q = [] by rw [h0]; rfl] at this
        exact this
      · exact ih q (by omega) (lo + m + 1) (o + (m + 1) * 4) cR (r - 1) k p W (by omega) (by omega) hqc htR h1 h2
    have HQ : Hid (q = n - (m + 1) ∧ n ≤ cap) := ⟨hq, hcap⟩
    obtain ⟨W2, hW2⟩ : ∃ W2, W2 = (W.alloc (.cells #[.slice ta tn tc, .int .i64 tt] 52)).alloc (.cells #[.int .u32 rr.sub, .int .i64 rr.frm, .int .i64 rr.til, .int .i64 rr.lat] 66) := ⟨_, rfl⟩
    have HW2 : Hid (W2 = (W.alloc (.cells #[.slice ta tn tc, .int .i64 tt] 52)).alloc (.cells #[.int .u32 rr.sub, .int .i64 rr.frm, .int .i64 rr.til, .int .i64 rr.lat] 66)) := hW2
    have HJ2 : Hid (J k ((W.heap.size + 1, .cells #[.int .u32 rr.sub, .int .i64 rr.frm, .int .i64 rr.til, .int .i64 rr.lat] 66) :: (W.heap.size, .cells #[.slice ta tn tc, .int .i64 tt] 52) :: p) W2) := by
      have h1 := hJA k p W #[.slice ta tn tc, .int .i64 tt] 52 hJ
      have h2 := hJA _ _ _ #[.int .u32 rr.sub, .int .i64 rr.frm, .int .i64 rr.til, .int .i64 rr.lat] 66 h1
      rw [World.size_alloc] at h2
      rw [hW2]
      exact h2
    have HJD : Hid (∀ k b o p W, J k ((b, o) :: p) W → J k p W ∧ W.heap[b]? = some o) := hJD
    clear ho
    by_cases hA : rr.lat < tt
    · have HP : Hid (hitsF F tt lo n = []) := by
        refine hitsF_none F tt lo n fun j h1 h2 => ?_
        have := ht0 j h1 h2
        cases hh : ruHit (F j) tt with
        | false => rfl
        | true => have := ruHit_iff.1 hh; omega
      clear hJ ih hH hJF hJB hJA hJD hY hup hq hW2 hrr ht0 htL htR hsplit hm HSP HL HR
      refine callsIn_of_wp Try.func23 rfl trivial ?_ rfl
      simp only [Try.ntmps23, List.size_toArray, List.length_cons, List.length_nil, Nat.reduceAdd, Nat.reduceSub, Array.replicate_succ, Array.replicate_zero, List.push_toArray, List.append_toArray, List.nil_append, List.cons_append]
      gi_wp2
      go_ret
      exact ⟨rfl, by rw [HP.out, ← HW2.out]; exact (HJD.out _ _ _ _ _ (HJD.out _ _ _ _ _ HJ2.out).1).1⟩
    · have hB : hitsF F tt lo n = hitsF F tt lo m ++ ((if ruHit rr tt = true then [rr.sub] else []) ++ hitsF F tt (lo + m + 1) q) := hsplit
      have HPre : Hid (∀ i x, (hitsF F tt lo m)[i]? = some x → H[k + i]? = some x) := fun i x h => hH i x (by rw [hB, List.getElem?_append_left (List.getElem?_eq_some_iff.1 h).1]; exact h)
      obtain ⟨M1, hM1⟩ : ∃ M1, M1 = (hitsF F tt lo m).length := ⟨_, rfl⟩
      have HLc : Hid (CallsIn Fence.wide (r - 1) Try.prog 23 #[quV ta tn tc tt, .slice (some ⟨g, o, none⟩) m cap, .func (.yield l) #[] #[]] W2.drew fun e W' => e = .returned (.bool true) ∧ J (k + M1) ((W.heap.size + 1, .cells #[.int .u32 rr.sub, .int .i64 rr.frm, .int .i64 rr.til, .int .i64 rr.lat] 66) :: (W.heap.size, .cells #[.slice ta tn tc, .int .i64 tt] 52) :: p) W') := by
        rw [hM1]
        exact HL.out k _ W2.drew (hJB _ _ _ _ HJ2.out (Below.refl _ _).drew) HPre.out
      have hAI : ¬ rr.lat < tt := hA
      have HC : Hid (∀ k W', J k ((W.heap.size + 1, .cells #[.int .u32 rr.sub, .int .i64 rr.frm, .int .i64 rr.til, .int .i64 rr.lat] 66) :: (W.heap.size, .cells #[.slice ta tn tc, .int .i64 tt] 52) :: p) W' →
          W'.cell? ⟨W.heap.size, 0, none⟩ = some (.slice ta tn tc) ∧ W'.cell? ⟨W.heap.size, 1, none⟩ = some (.int .i64 tt) ∧ W'.cell? ⟨W.heap.size + 1, 0, none⟩ = some (.int .u32 rr.sub) ∧ W'.cell? ⟨W.heap.size + 1, 1, none⟩ = some (.int .i64 rr.frm) ∧ W'.cell? ⟨W.heap.size + 1, 2, none⟩ = some (.int .i64 rr.til)) := fun k W' h => by
        obtain ⟨h1, h2⟩ := hJD _ _ _ _ _ h
        obtain ⟨-, h3⟩ := hJD _ _ _ _ _ h1
        exact ⟨cell_obj h3 0, cell_obj h3 1, cell_obj h2 0, cell_obj h2 1, cell_obj h2 2⟩
      have HDR : Hid (∀ k W', J k ((W.heap.size + 1, .cells #[.int .u32 rr.sub, .int .i64 rr.frm, .int .i64 rr.til, .int .i64 rr.lat] 66) :: (W.heap.size, .cells #[.slice ta tn tc, .int .i64 tt] 52) :: p) W' → J k p W') := fun k W' h => (hJD _ _ _ _ _ (hJD _ _ _ _ _ h).1).1
      have HJB : Hid (∀ k p W W', J k p W → Below W.heap.size W W' → J k p W') := hJB
      have HY : Hid (∀ m k p W x, H[k]? = some x → J k p W → YieldAt Fence.wide m Try.prog l #[.int .u32 x] W fun e W' => e = .returned (.bool true) ∧ J (k + 1) p W') := hY
      have HH : Hid (∀ i x, (hitsF F tt lo n)[i]? = some x → H[k + i]? = some x) := hH
      have HM1 : Hid (M1 = (hitsF F tt lo m).length) := hM1
      have HUP : Hid (∀ i j, i ≤ j → j < N → (F i).frm ≤ (F j).frm) := hup
      have HRR : Hid (rr = F (lo + m)) := hrr
      obtain ⟨f0, f1, f2, f3, f4⟩ := HC.out _ _ HJ2.out
      clear hJ ih hJF hq hW2 hrr ht0 htL htR hsplit hm HL hJB hJA hJD hY hH hB hM1 c0 c1 c2 c3 HJD hup
      refine callsIn_of_wp Try.func23 rfl trivial ?_ rfl
      simp only [Try.ntmps23, List.size_toArray, List.length_cons, List.length_nil, Nat.reduceAdd, Nat.reduceSub, Array.replicate_succ, Array.replicate_zero, List.push_toArray, List.append_toArray, List.nil_append, List.cons_append]
      gi_wp2_with fail
      rw [← HW2.out]
      clear e0 e1 e2 e3
      gi_region_with (refine ⟨trivial, (fun h => by simp [Fence.wide] at h), ?_⟩; gi_at_call 23; refine HLc.out.mono ?_; rintro e W3 ⟨rfl, hJ3⟩; have HJ3 : Hid (J (k + M1) ((W.heap.size + 1, .cells #[.int .u32 rr.sub, .int .i64 rr.frm, .int .i64 rr.til, .int .i64 rr.lat] 66) :: (W.heap.size, .cells #[.slice ta tn tc, .int .i64 tt] 52) :: p) W3) := hJ3; clear hJ3; obtain ⟨f0, f1, f2, f3, f4⟩ := HC.out _ _ HJ3.out)
      by_cases hC : tt < rr.frm
      · have HE : Hid ((hitsF F tt lo n).length = M1) := by
          show _ = _
          have hz : hitsF F tt (lo + m + 1) q = [] := by
            refine hitsF_none F tt _ _ fun j h1 h2 => ?_
            have := HUP.out (lo + m) j (by omega) (by have := HQ.out; omega)
            rw [← HRR.out] at this
            cases hh : ruHit (F j) tt with
            | false => rfl
            | true => have := ruHit_iff.1 hh; omega
          have hr0 : ruHit rr tt = false := by
            cases hh : ruHit rr tt with
            | false => rfl
            | true => have := ruHit_iff.1 hh; omega
          rw [HSP.out, hz, hr0, HM1.out]
          simp
        gi_wp2
        go_ret
        exact ⟨rfl, by rw [HE.out]; exact HDR.out _ _ HJ3.out⟩
      · obtain ⟨M2, hM2⟩ : ∃ M2 : List Int, M2 = if ruHit rr tt = true then [rr.sub] else [] := ⟨_, rfl⟩
        have HM2 : Hid (M2 = if ruHit rr tt = true then [rr.sub] else []) := hM2
        have HLen : Hid ((hitsF F tt lo n).length = k + M1 + M2.length + (hitsF F tt (lo + m + 1) q).length - k) := by
          show _ = _
          rw [HSP.out, ← hM2, HM1.out]
          simp
          omega
        clear hM2
        gi_upto_region 11 with fail
        gi_cut [47] from 9 (fun s47 wx => s47 = .bool false ∧ J (k + M1 + M2.length) ((W.heap.size + 1, .cells #[.int .u32 rr.sub, .int .i64 rr.frm, .int .i64 rr.til, .int .i64 rr.lat] 66) :: (W.heap.size, .cells #[.slice ta tn tc, .int .i64 tt] 52) :: p) wx)
        case first =>
          by_cases hD : tt ≤ rr.til
          · have hM : M2 = [rr.sub] := by rw [HM2.out, if_pos (ruHit_iff.2 ⟨by omega, hD⟩)]
            have HM : Hid (M2 = [rr.sub]) := hM
            have hx : H[k + M1]? = some rr.sub := HH.out M1 rr.sub (by rw [HSP.out, ← HM2.out, hM, HM1.out, List.getElem?_append_right (Nat.le_refl _)]; simp)
            obtain ⟨fn, tmps, assign, body, hy, hR⟩ := HY.out (r - 1) (k + M1) _ W3 rr.sub hx HJ3.out
            clear hx hM
            gi_wp2_with ((try refine ⟨(fun h => by simp [Fence.wide] at h), ?_⟩); refine hR.mono ?_; clear hR; rintro e W4 ⟨rfl, hJ4⟩; have HJ4 : Hid (J (k + M1 + 1) ((W.heap.size + 1, .cells #[.int .u32 rr.sub, .int .i64 rr.frm, .int .i64 rr.til, .int .i64 rr.lat] 66) :: (W.heap.size, .cells #[.slice ta tn tc, .int .i64 tt] 52) :: p) W4) := hJ4; clear hJ4)
            gi_meet
            case rel => exact ⟨rfl, by rw [HM.out]; exact HJ4.out⟩
          · have hM : Hid (M2 = []) := by show _ = _; rw [HM2.out, if_neg (fun h => hD (ruHit_iff.1 h).2)]
            gi_wp2_with fail
            refine ⟨fun _ h => (by cases h), ?_⟩
            gi_wp2_with fail
            gi_meet
            case rel => exact ⟨rfl, by rw [hM.out]; exact HJ3.out⟩
        case rest =>
          obtain ⟨rfl, hJ4⟩ := hcut
          have HJ4 : Hid (J (k + M1 + M2.length) ((W.heap.size + 1, .cells #[.int .u32 rr.sub, .int .i64 rr.frm, .int .i64 rr.til, .int .i64 rr.lat] 66) :: (W.heap.size, .cells #[.slice ta tn tc, .int .i64 tt] 52) :: p) wc) := hJ4
          have HPost : Hid (∀ i x, (hitsF F tt (lo + m + 1) q)[i]? = some x → H[k + M1 + M2.length + i]? = some x) := fun i x h => by
            have := HH.out (M1 + M2.length + i) x (by rw [HSP.out, ← HM2.out, HM1.out, List.getElem?_append_right (by omega), List.getElem?_append_right (by omega)]; rw [show (hitsF F tt lo m).length + M2.length + i - (hitsF F tt lo m).length - M2.length = i by omega]; exact h)
            rw [show k + M1 + M2.length + i = k + (M1 + M2.length + i) by omega]
            exact this
          obtain ⟨f0, f1, f2, f3, f4⟩ := HC.out _ _ HJ4.out
          clear hJ4 HJ3 HLc HY HH HUP HRR HPre f2 f3 f4 HC
          by_cases hce : cap = m + 1
          · obtain rfl : n = m + 1 := by have := HQ.out; omega
            obtain rfl : q = 0 := by have := HQ.out; omega
            subst hce
            clear hmI hmnI hmc hm2 hm4 hm5
            have hmA : (m : Int) ≤ (m : Int) + 1 := by omega
            have HRc : Hid (CallsIn Fence.wide (r - 1) Try.prog 23 #[quV ta tn tc tt, .slice (some ⟨g, o, none⟩) 0 (0), .func (.yield l) #[] #[]] wc.drew fun e W' => e = .returned (.bool true) ∧ J (k + M1 + M2.length + (hitsF F tt (lo + m + 1) 0).length) ((W.heap.size + 1, .cells #[.int .u32 rr.sub, .int .i64 rr.frm, .int .i64 rr.til, .int .i64 rr.lat] 66) :: (W.heap.size, .cells #[.slice ta tn tc, .int .i64 tt] 52) :: p) W') := HR.out (k + M1 + M2.length) _ wc.drew (o) (0) (.inl ⟨rfl, rfl⟩) (by omega) (HJB.out _ _ _ _ HJ4.out (Below.refl _ _).drew) HPost.out
            clear HR HPost
            gi_wp2_with fail
            gi_region_with (refine ⟨trivial, (fun h => by simp [Fence.wide] at h), ?_⟩; gi_at_call 23; refine HRc.out.mono ?_; rintro e W5 ⟨rfl, hJ5⟩; have HJ5 : Hid (J (k + M1 + M2.length + (hitsF F tt (lo + m + 1) 0).length) ((W.heap.size + 1, .cells #[.int .u32 rr.sub, .int .i64 rr.frm, .int .i64 rr.til, .int .i64 rr.lat] 66) :: (W.heap.size, .cells #[.slice ta tn tc, .int .i64 tt] 52) :: p) W5) := hJ5; clear hJ5)
            all_goals
              gi_wp2
              go_ret
              exact ⟨rfl, by rw [HLen.out]; have := HDR.out _ _ HJ5.out; rw [show k + (k + M1 + M2.length + (hitsF F tt (lo + m + 1) 0).length - k) = k + M1 + M2.length + (hitsF F tt (lo + m + 1) 0).length by omega]; exact this⟩
          · have hqN : n - (m + 1) = q := HQ.out.1.symm
            have hqc : q ≤ cap - (m + 1) := by have := HQ.out; omega
            clear hmI
            have HRc : Hid (CallsIn Fence.wide (r - 1) Try.prog 23 #[quV ta tn tc tt, .slice (some ⟨g, o + (m + 1) * 4, none⟩) q (cap - (m + 1)), .func (.yield l) #[] #[]] wc.drew fun e W' => e = .returned (.bool true) ∧ J (k + M1 + M2.length + (hitsF F tt (lo + m + 1) q).length) ((W.heap.size + 1, .cells #[.int .u32 rr.sub, .int .i64 rr.frm, .int .i64 rr.til, .int .i64 rr.lat] 66) :: (W.heap.size, .cells #[.slice ta tn tc, .int .i64 tt] 52) :: p) W') := HR.out (k + M1 + M2.length) _ wc.drew (o + (m + 1) * 4) (cap - (m + 1)) (.inr rfl) (by omega) (HJB.out _ _ _ _ HJ4.out (Below.refl _ _).drew) HPost.out
            clear HR HPost
            gi_wp2_with fail
            gi_region_with (refine ⟨trivial, (fun h => by simp [Fence.wide] at h), ?_⟩; gi_at_call 23; refine HRc.out.mono ?_; rintro e W5 ⟨rfl, hJ5⟩; have HJ5 : Hid (J (k + M1 + M2.length + (hitsF F tt (lo + m + 1) q).length) ((W.heap.size + 1, .cells #[.int .u32 rr.sub, .int .i64 rr.frm, .int .i64 rr.til, .int .i64 rr.lat] 66) :: (W.heap.size, .cells #[.slice ta tn tc, .int .i64 tt] 52) :: p) W5) := hJ5; clear hJ5)
            all_goals
              gi_wp2
              go_ret
              exact ⟨rfl, by rw [HLen.out]; have := HDR.out _ _ HJ5.out; rw [show k + (k + M1 + M2.length + (hitsF F tt (lo + m + 1) q).length - k) = k + M1 + M2.length + (hitsF F tt (lo + m + 1) q).length by omega]; exact this⟩

end Go.Proofs.Ytkkcpofaiocjpab
