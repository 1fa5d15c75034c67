/- The reader's next, Scan. -/
import Derived.Test.YtafkkehcacdodaaGreatStrFrame
set_option maxRecDepth 100000
namespace Go.Proofs.YtafkkehcacdodaaGreat
open Go.RowKit

/-- The cell of the reader: a slice that shows bytes. -/
structure Rdr (w : World) (R : Nat) (A : Option Addr) (b off cap : Nat) (l : List Int) : Prop where
  cell : w.cell? ⟨R, 0, none⟩ = some (.slice A l.length cap)
  frz : w.frozen? ⟨R, 0, none⟩ = false
  le : l.length ≤ cap
  mx : cap ≤ maxLen
  bt : isBytes l
  ad : A = some ⟨b, off, none⟩ ∨ l = []
  sees : Sees w b off l
  ne : l ≠ [] → b ≠ R

theorem sees_part {w : World} {b off : Nat} {l : List Int} (h : Sees w b off l) (p n : Nat) (hp : p + n ≤ l.length) : Sees w b (off + p) ((l.drop p).take n) := fun i hi => by
  have hi' : i < n := by simp at hi; omega
  have := h (p + i) (by omega)
  rw [Nat.add_assoc, this]
  simp [List.getD, hi']

theorem get_yesI (b off len cap : Nat) (l : List Int) (q : Int) (p : Nat) (m : Int) (n : Nat) (w : World) (hq : q = p) (hm : m = n) (hl : len ≤ maxLen) (hc : len ≤ cap) (hcm : cap ≤ maxLen) (hL : l.length = len) (hb : isBytes l)
    (hs : Sees w b off l) (h1 : 1 ≤ n) (h2 : n ≤ 8) (h3 : p + n ≤ len) :
    Calls Tryz.prog 115 #[.slice (some ⟨b, off, none⟩) len cap, .int .i64 q, .int .i64 m] w fun e w' => e = .returned (.tuple #[.int .u64 (num ((l.drop p).take n)), .bool true]) ∧ w' = w := by
  subst hq; subst hm
  exact get_yes b off len cap l p n w hl hc hcm hL hb hs h1 h2 h3

theorem okB_eq {l : List Int} (h1 : 2 ≤ l.length) (h2 : l.getD 0 0 = 90) (h3 : 1 ≤ l.getD 1 0) (h4 : l.getD 1 0 ≤ 56) (h5 : (l.getD 1 0).toNat + 7 ≤ l.length) (h6 : l.getD ((l.getD 1 0).toNat + 6) 0 = 165) :
    okB l = decide (num ((l.drop ((l.getD 1 0).toNat + 2)).take 4) = crcV ((l.drop 2).take (l.getD 1 0).toNat)) := by
  unfold okB
  exact decide_eq_decide.2 ⟨fun h => h.2.2.2.2.2.2, fun h => ⟨h1, h2, h3, h4, h5, h6, h⟩⟩

set_option maxHeartbeats 2000000 in
theorem next_no (w : World) (R : Nat) (A : Option Addr) (b off cap : Nat) (l : List Int) (h : Rdr w R A b off cap l) (hk : okB l = false) :
    Calls Tryz.prog 95 #[.pointer (some ⟨R, 0, none⟩)] w fun e w' => e = .returned (.tuple #[.slice none 0 0, .bool false]) ∧ Below w.heap.size w w' := by
  have hc := h.cell
  have hle := h.le
  have hm := h.mx
  unfold maxLen at hm
  by_cases h2 : l.length < 2
  · have h2I : (l.length : Int) < 2 := by omega
    clear h hk
    go_enter Tryz.func95, Tryz.ntmps95
    go_wp2
    go_ret2
    exact ⟨rfl, Below.refl _ _⟩
  have h2I : ¬ (l.length : Int) < 2 := by omega
  rcases h.ad with rfl | hnil
  case inr => rw [hnil] at h2; simp at h2
  have c0 := h.sees 0 (by omega)
  have c1 := h.sees 1 (by omega)
  rw [Nat.add_zero] at c0
  obtain ⟨b0, b1⟩ := getD_byte l h.bt 1
  by_cases h90 : l.getD 0 0 = 90
  case neg =>
    have h90' : (l.getD 0 0 != 90) = true := by simpa using h90
    clear h hk
    generalize l.getD 0 0 = x0 at *
    have h0 : 0 < l.length := by omega
    go_enter Tryz.func95, Tryz.ntmps95
    go_wp2
    go_ret2
    exact ⟨rfl, Below.refl _ _⟩
  have h0 : 0 < l.length := by omega
  have h1I : (1 : Int) < l.length := by omega
  rw [h90] at c0
  obtain ⟨N, hN⟩ : ∃ N : Nat, l.getD 1 0 = (N : Int) := ⟨_, (Int.toNat_of_nonneg b0).symm⟩
  rw [hN] at c1 b1
  by_cases k1 : N = 0
  · subst k1
    clear h hk hN
    go_enter Tryz.func95, Tryz.ntmps95
    go_wp2
    go_ret2
    exact ⟨rfl, Below.refl _ _⟩
  have k1I : ¬ (N : Int) = 0 := by omega
  by_cases k2 : 56 < N
  · have k2I : (56 : Int) < N := by omega
    clear h hk hN
    go_enter Tryz.func95, Tryz.ntmps95
    go_wp2
    go_ret2
    exact ⟨rfl, Below.refl _ _⟩
  have k2I : ¬ (56 : Int) < N := by omega
  by_cases k3 : l.length < N + 7
  · have k3I : (l.length : Int) < N + 7 := by omega
    clear h hk hN
    go_enter Tryz.func95, Tryz.ntmps95
    go_wp2
    go_ret2
    exact ⟨rfl, Below.refl _ _⟩
  have k3I : ¬ (l.length : Int) < N + 7 := by omega
  have c6 := h.sees (N + 6) (by omega)
  rw [show off + (N + 6) = off + (2 + N + 4) by omega] at c6
  by_cases k4 : l.getD (N + 6) 0 = 165
  case neg =>
    have k4' : (l.getD (N + 6) 0 != 165) = true := by simpa using k4
    clear h hk hN
    generalize l.getD (N + 6) 0 = x6 at *
    go_enter Tryz.func95, Tryz.ntmps95
    go_wp2
    go_ret2
    exact ⟨rfl, Below.refl _ _⟩
  rw [k4] at c6
  have HG := get_yesI b off l.length cap l (2 + (N : Int)) (2 + N) 4 4 w (by omega) rfl (by unfold maxLen; omega) hle h.mx rfl h.bt h.sees (by omega) (by omega) (by omega)
  have hml : ((l.drop 2).take N).length = N := by simp; omega
  have hcm : cap - 2 ≤ maxLen := by unfold maxLen; omega
  have HC := crc_any (some ⟨b, off + 2, none⟩) b (off + 2) N (cap - 2) ((l.drop 2).take N) w (by omega) hcm hml (isBytes_part l h.bt 2 N) (.inl rfl) (sees_part h.sees 2 N (by omega))
  have hne : num ((l.drop (2 + N)).take 4) ≠ crcV ((l.drop 2).take N) := by
    intro e
    have := okB_eq (l := l) (by omega) h90 (by omega) (by omega) (by omega) (by rw [hN, Int.toNat_natCast]; exact k4)
    rw [hN, Int.toNat_natCast, hk, Nat.add_comm N 2] at this
    simp [e] at this
  have hcv := crcV_bd _ (isBytes_part l h.bt 2 N)
  generalize num ((l.drop (2 + N)).take 4) = Y at *
  generalize crcV ((l.drop 2).take N) = X at *
  have hne' : (Y != X) = true := by simpa using hne
  have k3' : (N : Int) + 7 ≤ l.length := by omega
  have hcapI : (N : Int) + 7 ≤ cap := by omega
  have k1B : ((N : Int) == 0) = false := by simpa using k1I
  have k3L : ¬ (l.length : Int) < 2 + (N : Int) + 5 := by omega
  clear h hk hN hne hml hcm k1I
  go_enter Tryz.func95, Tryz.ntmps95
  go_wp2_with (first
    | (go_at_call 115; refine HG.mono ?_; rintro e w' ⟨rfl, rfl⟩)
    | (go_at_call 116; refine HC.mono ?_; rintro e w4 ⟨rfl, hB4⟩))
  go_ret2
  exact ⟨rfl, hB4⟩

/-- What next leaves. -/
structure Nxt (w w' : World) (R b : Nat) (l : List Int) (v : Value) : Prop where
  body : Bts w' v (bodyB l)
  rest : ∃ A off cap, Rdr w' R A b off cap (l.drop ((bodyB l).length + 7))
  below : ∀ base, base ≤ R → base ≤ w.heap.size → Below base w w'
  kept : ∀ g, g < w.heap.size → g ≠ R → w'.heap[g]? = w.heap[g]?

set_option maxHeartbeats 2000000 in
theorem next_ok8 (w : World) (R : Nat) (A : Option Addr) (b off cap : Nat) (l : List Int) (h : Rdr w R A b off cap l) (hR : R < w.heap.size) (hb0 : b < w.heap.size) (hk : okB l = true) :
    Calls Tryz.prog 95 #[.pointer (some ⟨R, 0, none⟩)] w fun e w' => ∃ v, e = .returned (.tuple #[v, .bool true]) ∧ Nxt w w' R b l v := by
  have hc := h.cell
  have hf := h.frz
  have hle := h.le
  have hm := h.mx
  unfold maxLen at hm
  obtain ⟨o1, o2, o3, o4, o5, o6, o7⟩ := of_decide_eq_true hk
  obtain ⟨b0, b1⟩ := getD_byte l h.bt 1
  obtain ⟨N, hN⟩ : ∃ N : Nat, l.getD 1 0 = (N : Int) := ⟨_, (Int.toNat_of_nonneg b0).symm⟩
  have HBL := bodyB_len hk
  rw [hN] at o3 o4 o5 o6 o7 b1 HBL
  rw [Int.toNat_natCast] at o5 o6 o7 HBL
  have hbod : bodyB l = (l.drop 2).take N := by unfold bodyB; rw [hN, Int.toNat_natCast]
  rcases h.ad with rfl | hnil
  case inr => rw [hnil] at o1; simp at o1
  have hbR : b ≠ R := h.ne (fun e => by rw [e] at o1; simp at o1)
  have c0 := h.sees 0 (by omega)
  have c1 := h.sees 1 (by omega)
  have c6 := h.sees (N + 6) (by omega)
  rw [Nat.add_zero, o2] at c0
  rw [hN] at c1
  rw [show off + (N + 6) = off + (2 + N + 4) by omega, o6] at c6
  have h0 : 0 < l.length := by omega
  have h1I : (1 : Int) < l.length := by omega
  have h2I : ¬ (l.length : Int) < 2 := by omega
  have k1B : ((N : Int) == 0) = false := by simp; omega
  have k2I : ¬ (56 : Int) < N := by omega
  have k3' : (N : Int) + 7 ≤ l.length := by omega
  have k3L : ¬ (l.length : Int) < 2 + (N : Int) + 5 := by omega
  have hcapI : (N : Int) + 7 ≤ cap := by omega
  have HG := get_yesI b off l.length cap l (2 + (N : Int)) (2 + N) 4 4 w (by omega) rfl (by unfold maxLen; omega) hle h.mx rfl h.bt h.sees (by omega) (by omega) (by omega)
  have hml : ((l.drop 2).take N).length = N := by simp; omega
  have hcm : cap - 2 ≤ maxLen := by unfold maxLen; omega
  have HC := crc_any (some ⟨b, off + 2, none⟩) b (off + 2) N (cap - 2) ((l.drop 2).take N) w (by omega) hcm hml (isBytes_part l h.bt 2 N) (.inl rfl) (sees_part h.sees 2 N (by omega))
  have hcv := crcV_bd _ (isBytes_part l h.bt 2 N)
  rw [Nat.add_comm N 2] at o7
  rw [o7] at HG
  have HN : Hid (∀ (w4 : World) (v' : Value) (A' : Option Addr) (off' cap' : Nat), Below w.heap.size w w4 → v' = .slice A' (l.length - (N + 7)) cap' → l.length - (N + 7) ≤ cap' → cap' ≤ maxLen → ((A' = some ⟨b, off', none⟩ ∧ off' = off + (N + 7)) ∨ l.length = N + 7) →
      Nxt w (w4.setCell ⟨R, 0, none⟩ v') R b l (.slice (some ⟨b, off + 2, none⟩) N (cap - 2))) := by
    intro w4 v' A' off' cap' hB hv' q1 q2 q3
    have hS4 : Sees (w4.setCell ⟨R, 0, none⟩ v') b off l := fun i hi => by
      have := cell_later hB (h.sees i hi)
      rw [World.cell?_setCell_far _ _ _ _ (fun e => hbR e.symm)]
      exact this
    have hcR : w4.cell? ⟨R, 0, none⟩ = _ := cell_later hB h.cell
    have hdl : (l.drop (N + 7)).length = l.length - (N + 7) := by simp
    refine ⟨?_, ⟨A', off', cap', ?_⟩, ?_, fun g h1 h2 => (heap_setCell_other _ _ _ _ h2).trans (hB.block g h1)⟩
    · rw [hbod]
      exact ⟨_, _, b, off + 2, by rw [hml], by rw [hml]; omega, hcm, isBytes_part l h.bt 2 N, .inl rfl, sees_part hS4 2 N (by omega)⟩
    · rw [HBL.1]
      refine ⟨?_, ?_, by rw [hdl]; exact q1, q2, isBytes_drop h.bt _, ?_, ?_, fun _ => hbR⟩
      · rw [hdl, ← hv']
        exact World.cell?_setCell_same' _ _ _ (by rw [hcR]; rfl)
      · rw [World.frozen?_setCell]
        exact (hB.frozen (p := ⟨R, 0, none⟩) hR).trans h.frz
      · rcases q3 with ⟨e, _⟩ | e
        · exact .inl e
        · right; apply List.eq_nil_of_length_eq_zero; rw [hdl]; omega
      · rcases q3 with ⟨_, rfl⟩ | e
        · have := sees_part hS4 (N + 7) (l.length - (N + 7)) (by omega)
          rwa [List.take_of_length_le (by simp)] at this
        · intro i hi; rw [hdl] at hi; omega
    · intro base h1 h2
      exact (hB.mono h2).setCell h1 _
  generalize crcV ((l.drop 2).take N) = X at *
  clear h hk hN hml o7 o6 HBL hbod
  by_cases hce : cap = N + 7
  · have hle2 : l.length = N + 7 := by omega
    rw [hce] at hc hcm HC HG HN
    rw [hle2] at hc HG HN k3' k3L h0 h1I h2I
    clear hce hcapI hle o1 o5 hm
    go_enter Tryz.func95, Tryz.ntmps95
    go_wp2_with (first
      | (go_at_call 115; refine HG.mono ?_; rintro e w' ⟨rfl, rfl⟩)
      | (go_at_call 116; refine HC.mono ?_; rintro e w4 ⟨rfl, hB4⟩; have hc4 := cell_later hB4 hc; have hf4 := (hB4.frozen (p := ⟨R, 0, none⟩) hR).trans hf))
    refine bodyPost_ret (results_tmp2 rfl _ _ _) rfl ?_
    refine ⟨_, rfl, ?_⟩
    have e5 : N + 7 - 2 = N + 5 := by omega
    rw [e5] at HN
    have e0 : N + 2 - (2 + N) = 0 := by omega
    rw [e0]
    exact HN.out w4 _ (some ⟨b, off, none⟩) off 0 hB4 (by rw [Nat.sub_self]) (by omega) (by unfold maxLen; omega) (.inr trivial)
  · have hcg : N + 7 < cap := by omega
    have hcgI : (N : Int) + 7 < cap := by omega
    clear hce hcapI
    go_enter Tryz.func95, Tryz.ntmps95
    go_wp2_with (first
      | (go_at_call 115; refine HG.mono ?_; rintro e w' ⟨rfl, rfl⟩)
      | (go_at_call 116; refine HC.mono ?_; rintro e w4 ⟨rfl, hB4⟩; have hc4 := cell_later hB4 hc; have hf4 := (hB4.frozen (p := ⟨R, 0, none⟩) hR).trans hf))
    refine bodyPost_ret (results_tmp2 rfl _ _ _) rfl ?_
    refine ⟨_, rfl, ?_⟩
    exact HN.out w4 _ (some ⟨b, off + (N + 7), none⟩) (off + (N + 7)) (cap - (N + 7)) hB4 (by congr 1 <;> first | omega | (congr 2; omega)) (by omega) (by unfold maxLen; omega) (.inl ⟨rfl, rfl⟩)

end Go.Proofs.YtafkkehcacdodaaGreat
