/- The library's sort of subscribers: whole. -/
import Derived.Test.YtafkkehcacdodaaGreatTraSortQ
import Derived.Test.YtafkkehcacdodaaGreatTraWho
set_option maxRecDepth 100000
namespace Go.Proofs.YtafkkehcacdodaaGreat
open Go.RowKit Go.Shelf Go.Sort
attribute [local go_sem ↓] Go.wp_at_zero Go.wp_at_succ

theorem slicesSort_ok (w : World) (base g cap N : Nat) (d : Array Int) (h : UA w base g cap d) (hN : d.size = N) (hd : N ≤ 100000) :
    Calls Tryz.prog 92 #[.slice (some ⟨g, 0, none⟩) N cap] w fun e w' => e = .returned (.tuple #[]) ∧ RwU w w' base g cap N (Sort.sort ltU d) := by
  have hLen : Hid (∀ w, Calls Tryz.prog 114 #[.int .u64 (N : Int)] w fun e w' => e = .returned (.int .i64 (bitsLen N : Nat)) ∧ w' = w) := fun w => by
    have h : Calls Tryz.prog 114 #[.int .u64 (N : Int)] w fun e w' => e = .returned (.int .i64 (Lib.bitLen (N : Int).toNat)) ∧ w' = w := Any.bits_Len Tryz.bitsLen (N : Int) w (by omega) (by omega)
    rwa [Int.toNat_natCast, bitLen_eq _ (by omega)] at h
  have hk : bitsLen N ≤ 62 := (bitsLen_le_iff N 62).2 (by omega)
  have HP := pdq_ok base g cap N hd (N + 1) w d 0 N (bitsLen N) (by omega) h hN (Nat.zero_le _) (Nat.le_refl _) (by omega) (.inl rfl)
  have HP2 : Hid (Calls Tryz.prog 113 #[.slice (some ⟨g, 0, none⟩) N cap, .int .i64 0, .int .i64 (N : Int), .int .i64 ((bitsLen N : Nat) : Int)] w fun e w' => e = .returned (.tuple #[]) ∧ RwU w w' base g cap N (Sort.sort ltU d)) := by
    have e : Sort.sort ltU d = pdq ltU d 0 N (bitsLen N) true true := by unfold Sort.sort; rw [hN]
    rw [e]
    exact HP
  have hwr : IntKind.u64.wrap (N : Int) = (N : Int) := by rw [IntKind.wrap_u64]; omega
  clear h hN HP
  generalize bitsLen N = k at *
  go_enter Tryz.func92, Tryz.ntmps92
  go_wp2_with (first
    | (go_at_call 114; refine (hLen.out _).mono ?_; rintro e w' ⟨rfl, rfl⟩)
    | (go_at_call 113; refine HP2.out.mono ?_; rintro e w2 ⟨rfl, hw2⟩; have HW2 : Hid (RwU _ w2 base g cap N (Sort.sort ltU d)) := hw2; clear hw2))
  refine bodyPost_end (results_none rfl _ _ _) rfl ?_
  exact ⟨rfl, HW2.out⟩

/-- The library's sort, of up to a hundred thousand subscribers. -/
theorem sortU_of (n : Nat) (hn : n ≤ 100000) : SortU n := by
  intro W base v l h hok hl
  by_cases h1 : l.length ≤ 1
  · exact sortU_one W base v l h hok h1
  · obtain ⟨a, cap, rfl, -, -, h3⟩ := ownsRow_shape h
    obtain ⟨g, rfl⟩ : ∃ g, a = some ⟨g, 0, none⟩ := by
      rcases h3 with h3 | h3
      · omega
      · exact h3
    have hu : UA W base g cap l.toArray := h
    obtain ⟨hP, hS⟩ := sort_holds pdqU swoU l.toArray
    have hsz : (Sort.sort ltU l.toArray).size = l.length := by rw [hP.1]; simp
    refine (slicesSort_ok W base g cap l.length l.toArray hu (by simp) (by omega)).mono ?_
    rintro e w' ⟨rfl, hr⟩
    refine ⟨rfl, (Sort.sort ltU l.toArray).toList, ?_, ?_, ?_, ?_⟩
    · have := hP.2.2
      have e1 : (Sort.sort ltU l.toArray).extract 0 l.toArray.size = Sort.sort ltU l.toArray := by rw [← hP.1]; exact Array.extract_size
      rw [e1, Array.extract_size] at this
      exact this
    · rw [List.pairwise_iff_getElem]
      intro i j hi hj hij
      have hi' : i < (Sort.sort ltU l.toArray).size := by simpa using hi
      have hj' : j < (Sort.sort ltU l.toArray).size := by simpa using hj
      have := hS i j (Nat.zero_le _) hij (by rw [← hP.1]; exact hj')
      rw [getElem!_pos _ j hj', getElem!_pos _ i hi'] at this
      simp only [ltU, decide_eq_false_iff_not] at this
      simp only [Array.getElem_toList]
      omega
    · have hu' := hr.1
      unfold UA at hu'
      rw [hsz] at hu'
      have hll : (Sort.sort ltU l.toArray).toList.length = l.length := by rw [Array.length_toList, hsz]
      show w'.ownsRow base _ 1 (.slice (some ⟨g, 0, none⟩) l.length cap) (Sort.sort ltU l.toArray).toList.length _
      rw [hll]
      exact hu'
    · have hb : base ≤ g := (ownsRow_lt h rfl).1
      have hlt : g < W.heap.size := (ownsRow_lt h rfl).2
      exact ⟨hr.2.2.os, hr.2.2.tape, hr.2.2.output, hr.2.2.size, fun k hk => hr.2.2.block k (by omega) (by intro e; cases e; omega)⟩

theorem sortU_all : SortU 1000 := sortU_of 1000 (by omega)

end Go.Proofs.YtafkkehcacdodaaGreat
