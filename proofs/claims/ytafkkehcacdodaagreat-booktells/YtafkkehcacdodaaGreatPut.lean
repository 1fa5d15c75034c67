/- The contracts of Put, in octet and in the document's own answer. -/
import Derived.Test.YtafkkehcacdodaaGreatCopy
import Derived.Test.YtafkkehcacdodaaGreatM2
import Derived.Laws.CopyOwn
set_option maxRecDepth 100000
namespace Go.Proofs.YtafkkehcacdodaaGreat
open Go.RowKit

set_option maxHeartbeats 400000 in
theorem put_no (a : Option Addr) (len cap : Nat) (p n x : Int) (w : World) (hl : len ≤ maxLen) (h : holdsB len p n = false) :
    Calls Tryz.prog 127 #[.slice a len cap, .int .i64 p, .int .i64 n, .int .u64 x] w fun e w' => e = .returned (.tuple #[.slice none 0 0, .bool false]) ∧ w' = w := by
  go_enter Tryz.func127, Tryz.ntmps127
  go_wp2_with (go_at_call 141; refine (holds_any _ _ _ _ _ _ hl).mono ?_; rintro e w' ⟨rfl, rfl⟩)
  go_ret2
  exact ⟨rfl, rfl⟩

/-- Behind make and copy. -/
theorem holds8_made {w : World} {base G len : Nat} {l : List Int} {cur : List Value} (hlen : l.length = len) (hbase : base ≤ G) (hm : len ≤ maxLen)
    (hg : w.heap[G]? = some (.cells cur.toArray 5 (0, 0))) (hc : cur = l.map (Value.int .u8)) : Holds8 w base G len len l := by
  refine ⟨hlen, by simp [hlen], .inr ⟨G, len, cur.toArray, rfl, hbase, hg, Nat.le_refl _, hm, ?_, ?_⟩⟩
  · simp [hc, hlen]
  · simp [hc, hlen, List.take_of_length_le]

theorem made_block {w : World} {base G len : Nat} {xs : List Value} (h : w.ownsRow base 5 1 (.slice (some ⟨G, 0, none⟩) len len) len xs) :
    ∃ cur : List Value, cur.length = len ∧ w.heap[G]? = some (.cells cur.toArray 5 (0, 0)) := by
  rcases h.2 with ⟨h', _⟩ | ⟨g', cap', cur, h', _, hg, _, _, hcs, _⟩
  · simp at h'
  · simp only [Value.slice.injEq, Option.some.injEq, Addr.mk.injEq, and_true, true_and] at h'
    obtain ⟨rfl, rfl⟩ := h'
    exact ⟨cur.toList, by simpa using hcs, by simpa using hg⟩

theorem splice_all {α : Type} (Z X : List α) (h : Z.length = X.length) : splice Z 0 X = X := by
  unfold splice; simp; omega

set_option maxHeartbeats 1000000 in
theorem put_yes (b off len cap : Nat) (l : List Int) (p n : Nat) (x : Int) (w : World) (hL : l.length = len)
    (hs : Sees w b off l) (h1 : 1 ≤ n) (h2 : n ≤ 8) (h3 : p + n ≤ len) (hx0 : 0 ≤ x) (hx1 : x < 18446744073709551616) (hreach : len ≤ 140737488351232) :
    Calls Tryz.prog 127 #[.slice (some ⟨b, off, none⟩) len cap, .int .i64 p, .int .i64 n, .int .u64 x] w fun e w' =>
      ∃ G, e = .returned (.tuple #[.slice (some ⟨G, 0, none⟩) len len, .bool true]) ∧ Holds8 w' w.heap.size G len len (lay l p n x) ∧ Below w.heap.size w w' := by
  have hh : holdsB len p n = true := by unfold holdsB; simp; omega
  obtain ⟨i0, hi, hz0, hz1, hz2⟩ := info_parts info5
  have HL : Hid (l.length = len) := hL
  clear hL
  go_enter Tryz.func127, Tryz.ntmps127
  go_wp2_with fail
  refine (holds_any _ _ _ _ _ _ (by unfold maxLen; omega)).mono ?_
  rintro e w' ⟨rfl, rfl⟩
  go_wp2_with (at_make; refine wpList_make_full _ rfl _ _ 39 rfl w'.heap.size 5 i0 (.int .u8 0) 1 Tryz.underlying39 hi hz0 hz1 .i64 .i64 _ _ len rfl rfl rfl rfl (by rw [hz2]; omega) (by unfold maxLen; omega) (Nat.le_refl _) ?_)
  intro w1 hown hgrow
  have hb1 : Below w'.heap.size w' w1 := (Below.refl _ _).grown hgrow (Nat.le_refl _) (fun k hk => by cases hk)
  obtain ⟨cur, hcur, hblk⟩ := made_block hown
  have hs1 := hs.later hb1
  clear hown hgrow
  have HC : Hid (cur.length = len) := hcur
  clear hcur
  obtain ⟨X, hX⟩ : ∃ X, X = l.map (Value.int .u8) := ⟨_, rfl⟩
  have HX : Hid (X = l.map (Value.int .u8)) := hX
  have HXl : Hid (X.length = len) := by show X.length = len; rw [hX, List.length_map, HL.out]
  have hcs := cells_of_sees hs1
  have hone := ones_cell l
  rw [← hX] at hcs hone
  clear hX
  obtain ⟨w2, hrun, hg2, hb2⟩ : ∃ w2, (Builtin.copy_ #[39, 39] 3 #[.slice (some ⟨w'.heap.size, 0, none⟩) len len, .slice (some ⟨b, off, none⟩) len cap]).run Tryz.prog w1 = .ok (goInt len) w2 ∧
      Hid (w2.heap[w'.heap.size]? = some (.cells (splice cur 0 X).toArray 5 (0, 0))) ∧ Below w'.heap.size w' w2 := by
    have h := run_copy_row (P := Tryz.prog) w1 39 39 3 5 w'.heap.size 0 len len ⟨b, off, none⟩ len cap cur.toArray 5 X Tryz.underlying39 size5 hblk (by rw [HXl.out]; exact (Nat.min_self _).symm) hcs (by simp [HXl.out, HC.out]) hone
    rw [HXl.out] at h
    refine ⟨_, h, ?_, below_setRow hb1 (Nat.le_refl _) _⟩
    show _ = _
    have h2 := setRow_heap w1 w'.heap.size cur.toArray ((cur.toArray.toList.take 0 ++ (X ++ cur.toArray.toList.drop (0 + len))).toArray) 5 (0, 0) hblk
    simpa [splice, HXl.out] using h2
  have hH : Holds8 w2 w'.heap.size w'.heap.size len len l := holds8_made HL.out (Nat.le_refl _) (by unfold maxLen; omega) hg2.out (by rw [splice_all _ _ (by rw [HXl.out, HC.out])]; exact HX.out)
  clear hg2 hcs hone hblk hs1 hb1
  go_wp2
  go_loopw [3, 11] (fun xv iv wr => ∃ (m : Nat) (L : List Int) (X : Int), m ≤ n ∧ iv = .int .i64 ((p : Int) + m - 1) ∧ xv = .int .u64 X ∧ 0 ≤ X ∧ X < 18446744073709551616 ∧ lay L p m X = lay l p n x ∧ Holds8 wr w'.heap.size w'.heap.size len len L ∧ Below w'.heap.size w' wr) (fun _ iv _ => (intOf iv + 1 - p).toNat)
  case atStart => exact ⟨n, l, x, Nat.le_refl _, rfl, rfl, hx0, hx1, rfl, hH, hb2⟩
  case round =>
    obtain ⟨m, L, X, hm, rfl, rfl, hX0, hX1, hlay, hHr, hbr⟩ := hrel
    have HY : Hid (lay L p m X = lay l p n x) := hlay
    clear hlay
    cases m with
    | succ m =>
      have hcell := hHr.cell (p + m) (by omega)
      have hfr := hHr.2.frozenAt (p + m)
      have R1 := hHr.store (p + m) (X % 256)
      have R2 : Below w'.heap.size w' (wr.setCell ⟨w'.heap.size, p + m, none⟩ (.int .u8 (X % 256))) := hbr.setCell (Nat.le_refl _) _
      go_wp2
      go_roundw
      case rel => exact ⟨m, L.set (p + m) (X % 256), X / 256, by omega, by go_num, rfl, by omega, by omega, HY.out, R1, R2⟩
      case measure => simp [intOf]; omega
    | zero =>
      go_wp2
      go_ret2
      exact ⟨_, rfl, by rw [← HY.out]; exact hHr, hbr⟩
theorem put_yes2 (b off len cap : Nat) (l : List Int) (p : Nat) (m : Int) (n : Nat) (x : Int) (w : World) (hm : m = (n : Int)) (hL : l.length = len)
    (hs : Sees w b off l) (h1 : 1 ≤ n) (h2 : n ≤ 8) (h3 : p + n ≤ len) (hx0 : 0 ≤ x) (hx1 : x < 18446744073709551616) (hreach : len ≤ 140737488351232) :
    Calls Tryz.prog 127 #[.slice (some ⟨b, off, none⟩) len cap, .int .i64 p, .int .i64 m, .int .u64 x] w fun e w' =>
      ∃ G, e = .returned (.tuple #[.slice (some ⟨G, 0, none⟩) len len, .bool true]) ∧ Holds8 w' w.heap.size G len len (lay l p n x) ∧ Below w.heap.size w w' := by
  subst hm; exact put_yes b off len cap l p n x w hL hs h1 h2 h3 hx0 hx1 hreach

theorem put_yes3 (b off len cap : Nat) (l : List Int) (q : Int) (p : Nat) (m : Int) (n : Nat) (x : Int) (w : World) (hq : q = (p : Int)) (hm : m = (n : Int)) (hL : l.length = len)
    (hs : Sees w b off l) (h1 : 1 ≤ n) (h2 : n ≤ 8) (h3 : p + n ≤ len) (hx0 : 0 ≤ x) (hx1 : x < 18446744073709551616) (hreach : len ≤ 140737488351232) :
    Calls Tryz.prog 127 #[.slice (some ⟨b, off, none⟩) len cap, .int .i64 q, .int .i64 m, .int .u64 x] w fun e w' =>
      ∃ G, e = .returned (.tuple #[.slice (some ⟨G, 0, none⟩) len len, .bool true]) ∧ Holds8 w' w.heap.size G len len (lay l p n x) ∧ Below w.heap.size w w' := by
  subst hm hq; exact put_yes b off len cap l p n x w hL hs h1 h2 h3 hx0 hx1 hreach

end Go.Proofs.YtafkkehcacdodaaGreat
