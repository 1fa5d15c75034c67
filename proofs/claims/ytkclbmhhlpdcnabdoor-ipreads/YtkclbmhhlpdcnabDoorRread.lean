/- The document's own Read. -/
import Derived.Test.YtkclbmhhlpdcnabDoorReadMath
import Derived.Test.YtkclbmhhlpdcnabDoorRshow
import Derived.Test.YtkclbmhhlpdcnabDoorAddress
set_option maxRecDepth 100000
namespace Go.Proofs.YtkclbmhhlpdcnabDoor
open Go.RowKit

/-- What a reading of a text answers. -/
def ReadPost (s : ByteArray) (w : World) (e : Ending) (w' : World) : Prop :=
  (∃ n : Nat, n < 4294967296 ∧ s = str (showL n) ∧ e = .returned (.tuple #[.int .u32 (n : Int), .bool true]) ∧ Below w.heap.size w w') ∨ (¬ IsShow s ∧ e = .returned (.tuple #[.int .u32 0, .bool false]) ∧ Below w.heap.size w w')

theorem drop_at (s : ByteArray) (k : Nat) (h : k < s.size) : s.data.toList.drop k = s[k] :: s.data.toList.drop (k + 1) := by
  rw [List.drop_eq_getElem_cons (by simpa using h)]
  rfl

theorem drop_all (s : ByteArray) : s.data.toList.drop s.size = [] := List.drop_eq_nil_of_le (Nat.le_of_eq Array.length_toList)

theorem ne_text {x y : ByteArray} (h : ¬ x = y) : (x.toList == y.toList) = false := by
  rw [ByteArray.toList_eq, ByteArray.toList_eq]
  exact beq_false_of_ne fun e => h (str_eq e)

theorem or_wrap (A P : Nat) (hP : P < 256) : bits .or .u32 ((A : Int) * 256 % 4294967296) (P : Int) = ((A % 16777216 * 256 + P : Nat) : Int) := by
  have e : (A : Int) * 256 % 4294967296 = ((A % 16777216 : Nat) : Int) * 256 := by omega
  rw [e, or_u32 _ _ (by omega) (by omega) (by omega) (by omega)]
  omega

set_option maxHeartbeats 4000000 in
theorem rread_any (s : ByteArray) (w : World) (hs : s.size ≤ 100000) :
    Calls Tryd.prog 9 #[.string s] w fun e w' => ReadPost s w e w' := by
  go_enter Tryd.func9, Tryd.ntmps9
  go_wp2
  go_loop [4, 5, 6, 7] (fun x p q i => ∃ A P N k : Nat, x = .int .u32 (A : Int) ∧ p = .int .i64 (P : Int) ∧ q = .int .i64 (N : Int) ∧ i = .int .i64 (k : Int) ∧ A < 4294967296 ∧ P < 256 ∧ N ≤ k ∧ k ≤ 16 ∧ k ≤ s.size ∧ Hid (rd (s.data.toList.drop k) A P N = rd s.data.toList 0 0 0)) (fun _ _ _ i => 16 - (intOf i).toNat)
  case atStart => exact ⟨0, 0, 0, 0, rfl, rfl, rfl, rfl, by omega, by omega, by omega, by omega, by omega, by show _ = _; simp⟩
  case round =>
    obtain ⟨A, P, N, k, rfl, rfl, rfl, rfl, hA, hP, hN, hk, hks, HR⟩ := hrel
    have hor := or_wrap A P hP
    by_cases hlt : k < s.size ∧ k < 16
    · obtain ⟨h1, h2⟩ := hlt
      have hb : s[k].toNat < 256 := s[k].toNat_lt
      have HD : Hid (s.data.toList.drop k = s[k] :: s.data.toList.drop (k + 1)) := drop_at s k h1
      by_cases c1 : s[k].toNat = 46
      · have HX : Hid (rd (s.data.toList.drop (k + 1)) (A % 16777216 * 256 + P) 0 (N + 1) = rd s.data.toList 0 0 0) := by
          have := HR.out
          rw [HD.out, rd, if_pos c1] at this
          exact this
        go_wp2
        go_round
        case rel => exact ⟨A % 16777216 * 256 + P, 0, N + 1, k + 1, by go_num, by go_num, by go_num, by go_num, by omega, by omega, by omega, by omega, by omega, HX⟩
        case measure => simp [intOf]; omega
      by_cases c2 : s[k].toNat < 48
      · have HX : Hid (¬ IsShow s) := by
          have := HR.out
          rw [HD.out, rd, if_neg c1, if_pos (.inl c2)] at this
          exact not_none this.symm
        go_wp2
        go_ret2
        exact .inr ⟨HX.out, rfl, Below.refl _ _⟩
      by_cases c3 : 57 < s[k].toNat
      · have HX : Hid (¬ IsShow s) := by
          have := HR.out
          rw [HD.out, rd, if_neg c1, if_pos (.inr c3)] at this
          exact not_none this.symm
        go_wp2
        go_ret2
        exact .inr ⟨HX.out, rfl, Below.refl _ _⟩
      by_cases c4 : 255 < P * 10 + (s[k].toNat - 48)
      · have HX : Hid (¬ IsShow s) := by
          have := HR.out
          rw [HD.out, rd, if_neg c1, if_neg (by omega), if_pos c4] at this
          exact not_none this.symm
        go_wp2
        go_ret2
        exact .inr ⟨HX.out, rfl, Below.refl _ _⟩
      · have HX : Hid (rd (s.data.toList.drop (k + 1)) A (P * 10 + (s[k].toNat - 48)) N = rd s.data.toList 0 0 0) := by
          have := HR.out
          rw [HD.out, rd, if_neg c1, if_neg (by omega), if_neg c4] at this
          exact this
        go_wp2
        go_round
        case rel => exact ⟨A, P * 10 + (s[k].toNat - 48), N, k + 1, rfl, by go_num, rfl, by go_num, by omega, by omega, by omega, by omega, by omega, HX⟩
        case measure => simp [intOf]; omega
    · obtain ⟨X, hX⟩ : ∃ X, X = A % 16777216 * 256 + P := ⟨_, rfl⟩
      have hXb : X < 4294967296 := by omega
      rw [← hX] at hor
      have HXe : Hid (X = A % 16777216 * 256 + P) := hX
      clear hX
      by_cases c0 : k < s.size
      · have hk16 : k = 16 := by omega
        subst hk16
        have HX : Hid (¬ IsShow s) := not_long (by omega)
        clear hlt
        by_cases c6 : N = 3
        · subst c6
          go_wp2
          go_ret2
          exact .inr ⟨HX.out, rfl, Below.refl _ _⟩
        · go_wp2
          go_ret2
          exact .inr ⟨HX.out, rfl, Below.refl _ _⟩
      have hke : k = s.size := by omega
      clear hlt c0
      by_cases c5 : 15 < s.size
      · have HX : Hid (¬ IsShow s) := not_long c5
        by_cases c6 : N = 3
        · subst c6
          go_wp2
          go_ret2
          exact .inr ⟨HX.out, rfl, Below.refl _ _⟩
        · go_wp2
          go_ret2
          exact .inr ⟨HX.out, rfl, Below.refl _ _⟩
      · have HE : Hid (rd s.data.toList 0 0 0 = some (A, P, N)) := by
          have := HR.out
          rw [hke, drop_all, rd] at this
          exact this.symm
        by_cases c6 : N = 3
        · subst c6
          go_wp2_with fail
          refine (rshow_any X w hXb).mono ?_
          rintro e w1 ⟨rfl, hb1⟩
          by_cases c7 : str (showL X) = s
          · rw [c7]
            go_wp2
            go_ret2
            exact .inl ⟨X, hXb, c7.symm, rfl, hb1⟩
          · have HX : Hid (¬ IsShow s) := not_other HE.out (by rw [← HXe.out]; exact fun h => c7 h.2)
            have hne := ne_text c7
            go_wp2
            go_ret2
            exact .inr ⟨HX.out, rfl, hb1⟩
        · have HX : Hid (¬ IsShow s) := not_other HE.out (fun h => c6 h.1)
          go_wp2
          go_ret2
          exact .inr ⟨HX.out, rfl, Below.refl _ _⟩
end Go.Proofs.YtkclbmhhlpdcnabDoor
