/- The contract of Sum and Check. -/
import Derived.Test.YtdejjokgchbgnaaGet
namespace Go.Proofs.Ytdejjokgchbgnaa
open Go.RowKit

/-- A value is a slice that shows the bytes l. -/
def Bts (w : World) (v : Value) (l : List Int) : Prop :=
  ∃ (a : Option Addr) (cap b off : Nat), v = .slice a l.length cap ∧ l.length ≤ cap ∧ cap ≤ maxLen ∧ isBytes l ∧ (a = some ⟨b, off, none⟩ ∨ l = []) ∧ Sees w b off l

/-- A row of cells, each a slice of bytes. -/
def Pts (w : World) (B O : Nat) (ls : List (List Int)) : Prop := ∀ i, i < ls.length → ∃ v, w.cell? ⟨B, O + i, none⟩ = some v ∧ Bts w v (ls.getD i [])

set_option maxHeartbeats 1000000 in
theorem sum_any (A : Option Addr) (B O cap : Nat) (ls : List (List Int)) (w : World) (hc : ls.length ≤ cap) (hm : cap ≤ maxLen) (hA : A = some ⟨B, O, none⟩ ∨ ls = []) (hp : Pts w B O ls)
    (hbig : ls.flatten.length ≤ 1099511627776) (hbs : isBytes ls.flatten) :
    Calls Try.prog 57 #[.slice A ls.length cap] w fun e w' => e = .returned (.int .i64 (fold16 (ws ls.flatten))) ∧ w' = w := by
  unfold maxLen at hm
  go_enter Try.func57, Try.ntmps57
  go_wp2
  go_loop [3, 4, 11] (fun t s i => ∃ k : Nat, k ≤ ls.length ∧ i = .int .i64 k ∧ t = .int .u64 (ws (ls.take k).flatten) ∧ s = .int .i64 (shiftOf (ls.take k).flatten.length)) (fun _ _ i => ls.length - (intOf i).toNat)
  case atStart => exact ⟨0, Nat.zero_le _, rfl, by simp [ws, wsAux], by simp [shiftOf]⟩
  case round =>
    obtain ⟨k, hk, rfl, rfl, rfl⟩ := hrel
    by_cases hlt : k < ls.length
    · obtain ⟨v, hcell, a, c1, b, off, rfl, q1, q2, q3, q4, q5⟩ := hp k hlt
      rcases hA with rfl | hnil
      case inr => rw [hnil] at hlt; simp at hlt
      have hfl := flatten_take_snoc ls k hlt
      have hle := flatten_take_le ls (k + 1)
      have HB : Hid (isBytes (ls.take k).flatten) := fun z hz => by
        apply hbs; rw [← List.take_append_drop k ls, List.flatten_append]; exact List.mem_append_left _ hz
      have HF : Hid ((ls.take (k + 1)).flatten = (ls.take k).flatten ++ ls.getD k []) := hfl
      have hfl2 : (ls.take k).flatten.length + (ls.getD k []).length ≤ 1099511627776 := by
        rw [hfl] at hle; simp only [List.length_append] at hle; omega
      clear hfl hle
      generalize hG : ls.getD k [] = g at *
      clear hG
      generalize hT : (ls.take k).flatten = F at *
      clear hT
      unfold maxLen at q2
      go_wp2
      go_loop [3, 4, 17] (fun t s i => ∃ j : Nat, j ≤ g.length ∧ i = .int .i64 j ∧ t = .int .u64 (ws (F ++ g.take j)) ∧ s = .int .i64 (shiftOf (F.length + j))) (fun _ _ i => g.length - (intOf i).toNat)
      case atStart => exact ⟨0, Nat.zero_le _, rfl, by simp, by simp⟩
      case round =>
        obtain ⟨j, hj, rfl, rfl, rfl⟩ := hrel
        by_cases hlj : j < g.length
        · rcases q4 with rfl | hnil
          case inr => rw [hnil] at hlj; simp at hlj
          have hc2 := q5 j hlj
          have hbyte := getD_byte g q3 j
          have hwb := ws_bd (F ++ g.take j) (isBytes_append HB.out (isBytes_take q3 j))
          have hln : (F ++ g.take j).length = F.length + j := by simp; omega
          rw [hln] at hwb
          have hsn := ws_snoc (F ++ g.take j) (g.getD j 0)
          rw [List.append_assoc, ← take_snoc g j hlj, hln] at hsn
          have HS : Hid (ws (F ++ g.take (j + 1)) = ws (F ++ g.take j) + (if (F.length + j) % 2 = 0 then g.getD j 0 * 256 else g.getD j 0)) := hsn
          clear hsn hln
          generalize hX : ws (F ++ g.take j) = X at *
          generalize hC : g.getD j 0 = c at *
          clear hX hC
          obtain ⟨hb0, hb1⟩ := hbyte
          obtain ⟨hx0, hx1⟩ := hwb
          by_cases hpar : (F.length + j) % 2 = 0
          · have e1 : shiftOf (F.length + j) = 8 := by simp [shiftOf, hpar]
            have E2 : Hid (shiftOf (F.length + (j + 1)) = 0) := by show shiftOf _ = 0; unfold shiftOf; rw [if_neg (by omega)]
            rw [e1]
            rw [if_pos hpar] at HS
            clear e1 hpar
            go_wp2
            go_round
            case rel => exact ⟨j + 1, by omega, by go_num, by rw [HS.out], by rw [E2.out]⟩
            case measure => simp [intOf]; omega
          · have e1 : shiftOf (F.length + j) = 0 := by simp [shiftOf, hpar]
            have E2 : Hid (shiftOf (F.length + (j + 1)) = 8) := by show shiftOf _ = 8; unfold shiftOf; rw [if_pos (by omega)]
            rw [e1]
            rw [if_neg hpar] at HS
            clear e1 hpar
            go_wp2
            go_round
            case rel => exact ⟨j + 1, by omega, by go_num, by rw [HS.out], by rw [E2.out]⟩
            case measure => simp [intOf]; omega
        · have hje : j = g.length := by omega
          subst hje
          go_wp2
          go_round
          case rel => exact ⟨k + 1, by omega, by go_num, by rw [HF.out]; simp, by rw [HF.out]; simp⟩
          case measure => simp [intOf]; omega
    · have hke : k = ls.length := by omega
      subst hke
      have hwb := ws_bd ls.flatten hbs
      have e0 : (List.take ls.length ls) = ls := List.take_length
      rw [e0]
      clear e0
      go_wp2_with (go_at_call 67; refine (fold_any _ _ (by omega) (by omega)).mono ?_; rintro e w' ⟨rfl, rfl⟩)
      go_ret
      exact ⟨rfl, rfl⟩

theorem Sees.later {w wx : World} {b off : Nat} {l : List Int} (h : Sees w b off l) (hb : Below w.heap.size w wx) : Sees wx b off l :=
  fun i hi => cell_later hb (h i hi)

theorem Bts.later {w wx : World} {v : Value} {l : List Int} (h : Bts w v l) (hb : Below w.heap.size w wx) : Bts wx v l := by
  obtain ⟨a, cap, b, off, h1, h2, h3, h4, h5, h6⟩ := h
  exact ⟨a, cap, b, off, h1, h2, h3, h4, h5, h6.later hb⟩

theorem Bts.shape {w : World} {v : Value} {l : List Int} (h : Bts w v l) : ∃ a N c, v = .slice a N c := by
  obtain ⟨a, c, _, _, rfl, _⟩ := h; exact ⟨_, _, _, rfl⟩

theorem below_trans {a b c : World} (h : Below a.heap.size a b) (k : Below b.heap.size b c) : Below a.heap.size a c := h.trans (k.mono h.size)

theorem Pts.later {w wx : World} {B O : Nat} {ls : List (List Int)} (h : Pts w B O ls) (hb : Below w.heap.size w wx) : Pts wx B O ls := by
  intro i hi
  obtain ⟨v, h1, h2⟩ := h i hi
  exact ⟨v, cell_later hb h1, h2.later hb⟩

theorem below_alloc (w : World) (o : Obj) : Below w.heap.size w (w.alloc o) := (Below.refl _ _).alloc (Nat.le_refl _) _

theorem pts_one {w : World} {v : Value} {l : List Int} (t : TypeId) (h : Bts w v l) : Pts (w.alloc (.cells #[v] t)) w.heap.size 0 [l] := by
  intro i hi
  have : i = 0 := by simp at hi; omega
  subst this
  exact ⟨v, by simp, h.later (below_alloc _ _)⟩

/-- Sum of one part. -/
theorem sum_one (w : World) (N : Nat) (v : Value) (l : List Int) (t : TypeId) (hN : N = w.heap.size) (h : Bts w v l) (hbig : l.length ≤ 1099511627776) :
    Calls Try.prog 57 #[.slice (some ⟨N, 0, none⟩) 1 1] (w.alloc (.cells #[v] t)) fun e w' => e = .returned (.int .i64 (fold16 (ws l))) ∧ w' = w.alloc (.cells #[v] t) := by
  subst hN
  have hb : isBytes l := by obtain ⟨a, cap, b, off, h1, h2, h3, h4, h5, h6⟩ := h; exact h4
  have := sum_any (some ⟨w.heap.size, 0, none⟩) w.heap.size 0 1 [l] (w.alloc (.cells #[v] t)) (by simp) (by decide) (.inl rfl) (pts_one t h) (by simpa using hbig) (by simpa using hb)
  simpa using this

end Go.Proofs.Ytdejjokgchbgnaa
