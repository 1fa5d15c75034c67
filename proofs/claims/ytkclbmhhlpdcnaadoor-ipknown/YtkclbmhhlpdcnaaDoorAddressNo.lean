/- The contracts of address and Read, for a text that is no address's. -/
import Derived.Test.YtkclbmhhlpdcnaaDoorRread
import Derived.Test.YtkclbmhhlpdcnaaDoorReads
import Derived.Lib.SplitLaws
import Derived.Lib.ParseIntBCases
set_option maxRecDepth 100000
namespace Go.Proofs.YtkclbmhhlpdcnaaDoor
open Go.RowKit

/-- The library's two errors lie in their variables. -/
def Errs (w : World) : Prop := ∃ e2 e3, (w.cell? ⟨1, 0, none⟩ = some e2 ∧ (e2 = .nilIface ∨ ∃ te pe, e2 = .iface te pe)) ∧ (w.cell? ⟨2, 0, none⟩ = some e3 ∧ (e3 = .nilIface ∨ ∃ te pe, e3 = .iface te pe))

theorem Errs.later {w w' : World} (h : Errs w) (hb : Below w.heap.size w w') : Errs w' := by
  obtain ⟨e2, e3, ⟨h1, h2⟩, h3, h4⟩ := h
  exact ⟨e2, e3, ⟨cell_later hb h1, h2⟩, cell_later hb h3, h4⟩

theorem split_size (sep : ByteArray) (save : Nat) : ∀ (k : Nat) (s p : ByteArray), p ∈ Lib.splitB sep save k s → p.size ≤ s.size
  | 0, s, p, h => by simp [Lib.splitB] at h; subst h; exact Nat.le_refl _
  | k + 1, s, p, h => by
    unfold Lib.splitB at h
    split at h
    · simp at h; subst h; exact Nat.le_refl _
    · rcases List.mem_cons.1 h with rfl | h
      · simp; omega
      · have := split_size sep save k _ p h
        simp at this
        omega

set_option maxHeartbeats 4000000 in
theorem address_no (s : ByteArray) (m : Int) (w : World) (hs : s.size ≤ 100000) (hno : ¬ IsShow s) (hm : w.cell? ⟨0, 0, none⟩ = some (.int .i64 m)) (he : Errs w) (htab : Lib.TabIs Tryd.prog w "internal/strconv.uint64pow10" .u64 Lib.pow10Tab) :
    Calls Tryd.prog 20 #[.string s] w fun e w' => e = .panicked (chainOf 4) ∧ Below w.heap.size w w' := by
  have HNO : Hid (¬ IsShow s) := hno
  clear hno
  by_cases c1 : 15 < s.size
  · go_enter Tryd.func20, Tryd.ntmps20
    go_wp2_with fail
    refine (refuse_yes' _ _ _ (by simp <;> omega)).mono ?_
    rintro e w' ⟨rfl, rfl⟩
    exact ⟨rfl, rfl, Below.refl _ _⟩
  obtain ⟨c, hc⟩ : ∃ c, c = Lib.countB s ⟨#[46]⟩ := ⟨_, rfl⟩
  obtain ⟨L, hL⟩ : ∃ L, L = Lib.splitB ⟨#[46]⟩ 0 c s := ⟨_, rfl⟩
  have hLl : L.length = c + 1 := by rw [hL]; exact Lib.splitB_all _ (by decide) 0 c s hc.symm
  have hLz : ∀ p ∈ L, p.size ≤ s.size := fun p hp => split_size _ 0 c s p (hL ▸ hp)
  have hsp := Tryd.strings_Split s ⟨#[46]⟩ m w (by omega) hm (by decide)
  rw [← hc, ← hL] at hsp
  have HLL : Hid (L.length = c + 1) := hLl
  clear hc hL hLl
  go_enter Tryd.func20, Tryd.ntmps20
  go_wp2_with fail
  refine (refuse_no' _ _ _ (by simp <;> omega)).mono ?_
  rintro e w' ⟨rfl, hw'⟩
  have hw'' := hw'.symm
  subst hw''
  clear hw'
  go_wp2_with fail
  refine hsp.mono ?_
  rintro e w1 ⟨rfl, hw1⟩
  have hcells : ∀ k x, L[k]? = some x → w1.cell? ⟨w.heap.size, k, none⟩ = some (.string x) := by
    intro k x hx
    rw [hw1, World.cell?_alloc_mark w _ 9 (0, 0) k]
    simp [hx]
  have hb1 : Below w.heap.size w w1 := by rw [hw1]; exact below_alloc _ _
  clear hw1 hsp
  by_cases c2 : c = 3
  case neg =>
    go_wp2_with fail
    refine (refuse_yes' _ _ _ (by simp <;> omega)).mono ?_
    rintro e w' ⟨rfl, rfl⟩
    exact ⟨rfl, rfl, hb1⟩
  subst c2
  go_wp2_with fail
  refine (refuse_no' _ _ _ (by simp)).mono ?_
  rintro e w' ⟨rfl, hw'⟩
  have hw'' := hw'.symm
  subst hw''
  clear hw'
  have he1 := he.later hb1
  have ht1 := Go.Joins.tab_stays gTab htab hb1 (Nat.le_refl _)
  clear he htab hm
  go_wp2
  go_loopw [4, 21] (fun x i wr => ∃ k A : Nat, k ≤ 4 ∧ i = .int .i64 (k : Int) ∧ x = .int .u32 (A : Int) ∧ A < 256 ^ k ∧ Below w1.heap.size w1 wr) (fun _ i _ => 4 - (intOf i).toNat)
  case atStart => exact ⟨0, 0, by omega, rfl, rfl, by simp, Below.refl _ _⟩
  case round =>
    obtain ⟨k, A, hk, rfl, rfl, hAk, hbel⟩ := hrel
    have hbel' := below_trans hb1 hbel
    by_cases hlt : k < 4
    · obtain ⟨p, hp⟩ : ∃ p, L[k]? = some p := ⟨_, List.getElem?_eq_getElem (by rw [HLL.out]; omega)⟩
      have hcell := cell_later hbel (hcells k p hp)
      have hpz : p.size ≤ 15 := by have := hLz p (List.mem_of_getElem? hp); omega
      have hA : A < 16777216 := by
        have : 256 ^ k ≤ 256 ^ 3 := Nat.pow_le_pow_right (by decide) (by omega)
        omega
      clear hp
      obtain ⟨e2, e3, ⟨g1, g2⟩, g3, g4⟩ := he1.later hbel
      cases hu : Lib.parseUintB 8 p.data.toList with
      | «syntax» =>
        have hps := Tryd.strconv_ParseUint_10_at8_syntax p (by omega) hu e2 wr g1 g2
        clear g1 g2 g3 g4 hu
        go_wp2_with fail
        refine hps.mono ?_
        rintro e w2 ⟨M, rfl, -, -, hb2⟩
        go_wp2_with fail
        refine (refuse_yes' _ _ _ (by simp)).mono ?_
        rintro e w' ⟨rfl, rfl⟩
        exact ⟨rfl, rfl, below_trans hbel' hb2⟩
      | range =>
        have hps := Tryd.strconv_ParseUint_10_at8_range p (by omega) hu e3 wr g3 g4
        clear g1 g2 g3 g4 hu
        go_wp2_with fail
        refine hps.mono ?_
        rintro e w2 ⟨M, rfl, -, -, hb2⟩
        go_wp2_with fail
        refine (refuse_yes' _ _ _ (by simp)).mono ?_
        rintro e w' ⟨rfl, rfl⟩
        exact ⟨rfl, rfl, below_trans hbel' hb2⟩
      | ok u =>
        have hps := Tryd.strconv_ParseUint_10_at8_ok p (by omega) u hu wr
        have hub := Lib.parseUintB_le hu
        have hub' : u < 256 := by simp at hub; omega
        clear g1 g2 g3 g4 hu hub
        have hor := or_u32 (A : Int) (u : Int) (by omega) (by omega) (by omega) (by omega)
        go_wp2_with fail
        refine hps.mono ?_
        rintro e w2 ⟨rfl, hw2⟩
        have hb2 : Below w1.heap.size w1 w2 := by
          rcases hw2 with rfl | rfl
          · exact hbel
          · exact below_trans hbel (Lib.bytesWorld_below _ _ _)
        clear hw2 hps hcell hbel hbel'
        go_wp2_with fail
        refine (refuse_no' _ _ _ (by simp)).mono ?_
        rintro e w' ⟨rfl, hw'⟩
        have hw'' := hw'.symm
        subst hw''
        clear hw'
        go_wp2
        go_roundw
        case rel => exact ⟨k + 1, A * 256 + u, by omega, by go_num, by go_num, by rw [Nat.pow_succ]; omega, hb2⟩
        case measure => simp [intOf]; omega
    · have hk4 : k = 4 := by omega
      subst hk4
      have hA : A < 4294967296 := by simpa using hAk
      have ht := Go.Joins.tab_stays gTab ht1 hbel (Nat.le_refl _)
      have hne := ne_text (x := str (showL A)) (y := s) (fun h => HNO.out ⟨A, hA, h.symm⟩)
      go_wp2_with fail
      refine (show_any A wr hA ht).mono ?_
      rintro e w2 ⟨rfl, hb2⟩
      go_wp2_with fail
      refine (refuse_yes' _ _ _ (by simp)).mono ?_
      rintro e w' ⟨rfl, rfl⟩
      exact ⟨rfl, rfl, below_trans hbel' hb2⟩
end Go.Proofs.YtkclbmhhlpdcnaaDoor
