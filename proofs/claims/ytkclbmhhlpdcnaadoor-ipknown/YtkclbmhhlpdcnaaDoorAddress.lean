/- The contract of address, for the text of an address. -/
import Derived.Test.YtkclbmhhlpdcnaaDoorShow
import Derived.Test.YtkclbmhhlpdcnaaDoorRefuse
import Derived.Test.YtkclbmhhlpdcnaaDoorGet
import Derived.Lib.Split
import Derived.Lib.SmallJoins
import Derived.Lib.AtoiErrMem
set_option maxRecDepth 100000
namespace Go.Proofs.YtkclbmhhlpdcnaaDoor
open Go.RowKit

theorem str_inj {x y : ByteArray} (h : x.data.toList = y.data.toList) : x = y := by
  cases x; cases y; simp at h; simpa using h

theorem map_inj : ∀ {xs ys : List ByteArray}, xs.map (·.data.toList) = ys.map (·.data.toList) → xs = ys
  | [], [], _ => rfl
  | [], _ :: _, h => by simp at h
  | _ :: _, [], h => by simp at h
  | x :: xs, y :: ys, h => by
    simp only [List.map_cons, List.cons.injEq] at h
    rw [str_inj h.1, map_inj h.2]

theorem splitB_show (a : Nat) (h : a < 4294967296) : Lib.countB (str (showL a)) ⟨#[46]⟩ = 3 ∧ Lib.splitB ⟨#[46]⟩ 0 (Lib.countB (str (showL a)) ⟨#[46]⟩) (str (showL a)) = partsOf a := by
  have h1 : Lib.countB (str (showL a)) ⟨#[46]⟩ = 3 := by
    unfold Lib.countB; rw [str_data]; exact count_show a h
  refine ⟨h1, ?_⟩
  rw [h1]
  apply map_inj
  rw [Lib.splitB_data, str_data, show ((⟨#[46]⟩ : ByteArray).data.toList) = [46] from rfl, split_show a h]
  simp [partsOf, str_data]

def accN (a k : Nat) : Nat := a / 2 ^ (32 - 8 * k)
def partN (a k : Nat) : Nat := a / 2 ^ (24 - 8 * k) % 256

theorem acc_step (a k : Nat) (ha : a < 4294967296) (hk : k < 4) : accN a (k + 1) = accN a k * 256 + partN a k ∧ accN a k < 16777216 ∧ partN a k < 256 ∧ (partsOf a)[k]? = some (str (dig (partN a k))) := by
  have hc : k = 0 ∨ k = 1 ∨ k = 2 ∨ k = 3 := by omega
  unfold accN partN
  rcases hc with rfl | rfl | rfl | rfl
  · simp [partsOf]; refine ⟨by omega, by omega, by omega, ?_⟩; rw [Nat.mod_eq_of_lt (by omega)]
  · simp [partsOf]; omega
  · simp [partsOf]; omega
  · simp [partsOf]; omega

theorem or_u32 (x c : Int) (h0 : 0 ≤ x) (h1 : x < 16777216) (h2 : 0 ≤ c) (h3 : c < 256) : bits .or .u32 (x * 256) c = x * 256 + c :=
  bits_join .u32 32 (by decide) (fun n a b => u32_id n a b) 8 (x * 256) c (by omega) (by omega) (by omega) h2 (by omega) (by omega)

theorem dig_len (b : Nat) : (dig b).length ≤ 3 := by
  unfold dig
  split
  · simp
  · split <;> simp

set_option maxHeartbeats 2000000 in
theorem address_ok (a : Nat) (m : Int) (w : World) (ha : a < 4294967296) (hm : w.cell? ⟨0, 0, none⟩ = some (.int .i64 m)) (htab : Lib.TabIs Tryd.prog w "internal/strconv.uint64pow10" .u64 Lib.pow10Tab) :
    Calls Tryd.prog 20 #[.string (str (showL a))] w fun e w' => e = .returned (.int .u32 (a : Int)) ∧ Below w.heap.size w w' := by
  have hl := showL_len a ha
  have hsz : (str (showL a)).size = (showL a).length := by simp [str, ByteArray.size]
  obtain ⟨s, hs⟩ : ∃ s, s = str (showL a) := ⟨_, rfl⟩
  rw [← hs] at hsz
  have hlen : s.size ≤ 15 := by omega
  obtain ⟨hcnt, hspl⟩ := splitB_show a ha
  rw [← hs] at hcnt hspl
  rw [← hs]
  have HS : Hid (s = str (showL a)) := hs
  have HA : Hid (a < 4294967296) := ha
  clear hs hsz hl
  go_enter Tryd.func20, Tryd.ntmps20
  go_wp2_with fail
  refine (refuse_no' _ _ _ (by simp <;> omega)).mono ?_
  rintro e w' ⟨rfl, hw'⟩
  have hw'' := hw'.symm
  subst hw''
  clear hw'
  go_wp2_with fail
  refine (Tryd.strings_Split s ⟨#[46]⟩ m _ (by omega) hm (by decide)).mono ?_
  rintro e w1 ⟨rfl, hw1⟩
  rw [hspl] at hw1
  rw [hcnt]
  have hcells : ∀ k x, (partsOf a)[k]? = some x → w1.cell? ⟨w.heap.size, k, none⟩ = some (.string x) := by
    intro k x hx
    rw [hw1, World.cell?_alloc_mark w _ 9 (0, 0) k]
    simp [hx]
  have hb1 : Below w.heap.size w w1 := by rw [hw1]; exact below_alloc _ _
  have hlt1 : w.heap.size < w1.heap.size := by rw [hw1]; simp
  clear hw1 hspl hcnt
  go_wp2_with fail
  refine (refuse_no' _ _ _ (by simp)).mono ?_
  rintro e w' ⟨rfl, hw'⟩
  have hw'' := hw'.symm
  subst hw''
  clear hw'
  go_wp2
  go_loopw [4, 21] (fun x i wr => ∃ k : Nat, k ≤ 4 ∧ i = .int .i64 (k : Int) ∧ x = .int .u32 (accN a k : Int) ∧ Below w1.heap.size w1 wr) (fun _ i _ => 4 - (intOf i).toNat)
  case atStart => exact ⟨0, by omega, rfl, by simp [accN]; omega, Below.refl _ _⟩
  case round =>
    obtain ⟨k, hk, rfl, rfl, hbel⟩ := hrel
    by_cases hlt : k < 4
    · obtain ⟨hnx, hA, hP, hpt⟩ := acc_step a k HA.out hlt
      have hcell := cell_later hbel (hcells k _ hpt)
      have HN : Hid (accN a (k + 1) = accN a k * 256 + partN a k) := hnx
      clear hnx hpt
      obtain ⟨u, hu⟩ : ∃ u, u = partN a k := ⟨_, rfl⟩
      obtain ⟨A, hAe⟩ : ∃ A, A = accN a k := ⟨_, rfl⟩
      rw [← hu] at hP hcell HN
      rw [← hAe] at hA HN
      rw [← hAe]
      clear hu hAe
      have hor := or_u32 (A : Int) (u : Int) (by omega) (by omega) (by omega) (by omega)
      have hp := Tryd.strconv_ParseUint_10_at8_ok (str (dig u)) (by have := dig_len u; simp [str, ByteArray.size]; omega) u (by rw [str_data]; exact parse_dig u hP) wr
      go_wp2_with fail
      refine hp.mono ?_
      rintro e w2 ⟨rfl, hw2⟩
      have hb2 : Below w1.heap.size w1 w2 := by
        rcases hw2 with rfl | rfl
        · exact hbel
        · exact below_trans hbel (Lib.bytesWorld_below _ _ _)
      clear hw2 hp hcell hbel
      go_wp2_with fail
      refine (refuse_no' _ _ _ (by simp)).mono ?_
      rintro e w' ⟨rfl, hw'⟩
      have hw'' := hw'.symm
      subst hw''
      clear hw'
      go_wp2
      go_roundw
      case rel => exact ⟨k + 1, by omega, by go_num, by rw [HN.out]; simp, hb2⟩
      case measure => simp [intOf]; omega
    · have hk4 : k = 4 := by omega
      subst hk4
      have h4 : accN a 4 = a := by simp [accN]
      rw [h4]
      have ht := Go.Joins.tab_stays gTab htab (below_trans hb1 hbel) (Nat.le_refl _)
      go_wp2_with fail
      refine (show_any a wr HA.out ht).mono ?_
      rintro e w2 ⟨rfl, hb2⟩
      go_wp2_with fail
      refine (refuse_no' _ _ _ (by simp [HS.out])).mono ?_
      rintro e w' ⟨rfl, hw'⟩
      have hw'' := hw'.symm
      subst hw''
      clear hw'
      go_wp2
      go_ret
      exact ⟨rfl, below_trans (below_trans hb1 hbel) hb2⟩
end Go.Proofs.YtkclbmhhlpdcnaaDoor
