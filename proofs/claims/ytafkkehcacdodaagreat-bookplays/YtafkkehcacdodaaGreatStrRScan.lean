/- The document's first and Scan. -/
import Derived.Test.YtafkkehcacdodaaGreatStrRow
import Derived.Test.YtafkkehcacdodaaGreatStrScan2
set_option maxRecDepth 100000
namespace Go.Proofs.YtafkkehcacdodaaGreat
open Go.RowKit

theorem rget_yesI (b off len cap : Nat) (l : List Int) (q : Int) (p : Nat) (m : Int) (n : Nat) (w : World) (hq : q = p) (hm : m = n) (hl : len ≤ maxLen) (hL : l.length = len) (hb : isBytes l)
    (hs : Sees w b off l) (h1 : 1 ≤ n) (h2 : n ≤ 8) (h3 : p + n ≤ len) :
    Calls Tryz.prog 77 #[.slice (some ⟨b, off, none⟩) len cap, .int .i64 q, .int .i64 m] w fun e w' => e = .returned (.tuple #[.int .u64 (num ((l.drop p).take n)), .bool true]) ∧ w' = w := by
  subst hq; subst hm
  exact rget_yes b off len cap l p n w hl hL hb hs h1 h2 h3

/-- What first answers. -/
def FirstPost (w : World) (l : List Int) (e : Ending) (w' : World) : Prop :=
  (okB l = false ∧ e = .returned (.tuple #[.slice none 0 0, .int .i64 0]) ∨ okB l = true ∧ ∃ v, e = .returned (.tuple #[v, .int .i64 ((bodyB l).length + 7)]) ∧ Owns w' w.heap.size v (bodyB l)) ∧ Below w.heap.size w w'

theorem okB_not {l : List Int} (h : ¬ (2 ≤ l.length ∧ l.getD 0 0 = 90 ∧ 1 ≤ l.getD 1 0 ∧ l.getD 1 0 ≤ 56 ∧ (l.getD 1 0).toNat + 7 ≤ l.length ∧ l.getD ((l.getD 1 0).toNat + 6) 0 = 165)) : okB l = false := by
  unfold okB
  rw [decide_eq_false_iff_not]
  rintro ⟨h1, h2, h3, h4, h5, h6, _⟩
  exact h ⟨h1, h2, h3, h4, h5, h6⟩

set_option maxHeartbeats 4000000 in
theorem first_any (w : World) (b off cap : Nat) (l : List Int) (hA : At w b off l.length cap l) (hbig : l.length ≤ 900000) :
    Calls Tryz.prog 101 #[.slice (some ⟨b, off, none⟩) l.length cap] w (FirstPost w l) := by
  have HA : Hid (At w b off l.length cap l) := hA
  have hle := hA.cap1
  have hm := hA.cap2
  unfold maxLen at hm
  have hs := hA.sees
  have hbt := hA.bytes
  clear hA
  by_cases h8 : l.length < 8
  · have h8I : (l.length : Int) < 8 := by omega
    have HN : Hid (okB l = false) := okB_not (by rintro ⟨_, _, h3, _, h5, _⟩; omega)
    clear hs hbt
    go_enter Tryz.func101, Tryz.ntmps101
    go_wp2
    go_ret2
    exact ⟨.inl ⟨HN.out, rfl⟩, Below.refl _ _⟩
  have h8I : ¬ (l.length : Int) < 8 := by omega
  have c0 := hs 0 (by omega)
  have c1 := hs 1 (by omega)
  rw [Nat.add_zero] at c0
  obtain ⟨b0, b1⟩ := getD_byte l hbt 1
  by_cases h90 : l.getD 0 0 = 90
  case neg =>
    have h90' : (l.getD 0 0 != 90) = true := by simpa using h90
    have HN : Hid (okB l = false) := okB_not (by rintro ⟨_, h2, _⟩; exact h90 h2)
    clear hs hbt HA h90
    generalize l.getD 0 0 = x0 at *
    generalize l.getD 1 0 = x1 at *
    go_enter Tryz.func101, Tryz.ntmps101
    go_wp2
    go_ret2
    exact ⟨.inl ⟨HN.out, rfl⟩, Below.refl _ _⟩
  rw [h90] at c0
  by_cases h1 : l.getD 1 0 < 1
  · have HN : Hid (okB l = false) := okB_not (by rintro ⟨_, _, h, _⟩; omega)
    clear hs hbt HA h90
    generalize l.getD 1 0 = x1 at *
    go_enter Tryz.func101, Tryz.ntmps101
    go_wp2
    go_ret2
    exact ⟨.inl ⟨HN.out, rfl⟩, Below.refl _ _⟩
  by_cases h56 : 56 < l.getD 1 0
  · have HN : Hid (okB l = false) := okB_not (by rintro ⟨_, _, _, h, _⟩; omega)
    clear hs hbt HA h90
    generalize l.getD 1 0 = x1 at *
    go_enter Tryz.func101, Tryz.ntmps101
    go_wp2
    go_ret2
    exact ⟨.inl ⟨HN.out, rfl⟩, Below.refl _ _⟩
  obtain ⟨N, hN⟩ : ∃ N : Nat, l.getD 1 0 = N := ⟨(l.getD 1 0).toNat, by omega⟩
  have hNt : (l.getD 1 0).toNat = N := by rw [hN]; simp
  rw [hN] at c1 h1 h56 b0 b1
  have h1I : ¬ (N : Int) < 1 := h1
  have h56I : ¬ (56 : Int) < (N : Int) := h56
  by_cases hsh : l.length < N + 7
  · have hshI : (l.length : Int) < (N : Int) + 7 := by omega
    have HN : Hid (okB l = false) := okB_not (by rintro ⟨_, _, _, _, h, _⟩; rw [hNt] at h; omega)
    clear hs hbt HA h90 hN hNt
    go_enter Tryz.func101, Tryz.ntmps101
    go_wp2
    go_ret2
    exact ⟨.inl ⟨HN.out, rfl⟩, Below.refl _ _⟩
  have hshI : ¬ (l.length : Int) < (N : Int) + 7 := by omega
  have c6 := hs (N + 6) (by omega)
  by_cases h165 : l.getD (N + 6) 0 = 165
  case neg =>
    have h165' : (l.getD (N + 6) 0 != 165) = true := by simpa using h165
    have HN : Hid (okB l = false) := okB_not (by rintro ⟨_, _, _, _, _, h⟩; rw [hNt] at h; exact h165 h)
    clear hs hbt HA h90 hN hNt h165
    generalize l.getD (N + 6) 0 = x6 at *
    go_enter Tryz.func101, Tryz.ntmps101
    go_wp2
    go_ret2
    exact ⟨.inl ⟨HN.out, rfl⟩, Below.refl _ _⟩
  rw [h165] at c6
  have HK : Hid (okB l = decide (num ((l.drop (N + 2)).take 4) = crcV ((l.drop 2).take N))) := by
    have := okB_eq (l := l) (by omega) h90 (by omega) (by omega) (by rw [hNt]; omega) (by rw [hNt]; exact h165)
    rwa [hNt] at this
  have HBd : Hid (bodyB l = (l.drop 2).take N) := by show _ = _; unfold bodyB; rw [hNt]
  have hbl : ((l.drop 2).take N).length = N := by simp; omega
  have HG : Hid (∀ wr, Below w.heap.size w wr → Calls Tryz.prog 77 #[.slice (some ⟨b, off, none⟩) l.length cap, .int .i64 ((N : Int) + 2), .int .i64 4] wr fun e w' => e = .returned (.tuple #[.int .u64 (num ((l.drop (N + 2)).take 4)), .bool true]) ∧ w' = wr) :=
    fun wr hb => rget_yesI b off l.length cap l ((N : Int) + 2) (N + 2) 4 4 wr (by omega) rfl (by unfold maxLen; omega) rfl hbt (hs.later hb) (by omega) (by omega) (by omega)
  have HP := part_any b off l.length cap l 2 ((N : Int) + 2) 2 (N + 2) w HA.out rfl (by omega) (by omega) (by omega) (by omega)
  rw [Nat.add_sub_cancel] at HP
  have hpb : isBytes ((l.drop 2).take N) := isBytes_part l hbt 2 N
  have HL : Hid (((l.drop 2).take N).length = N) := hbl
  have hcv := crcV_bd _ hpb
  have hnb := num_bd _ (isBytes_part l hbt (N + 2) 4)
  have hn4 : ((l.drop (N + 2)).take 4).length = 4 := by simp; omega
  rw [hn4] at hnb
  have HPB : Hid (isBytes ((l.drop 2).take N)) := hpb
  clear hs hbt HA h90 hN hNt h165 hbl hpb hn4
  generalize num ((l.drop (N + 2)).take 4) = Y at *
  generalize (l.drop 2).take N = M at *
  go_enter Tryz.func101, Tryz.ntmps101
  go_wp2_with fail
  refine HP.mono ?_
  rintro e w1 ⟨v1, rfl, hO1, hB1⟩
  have hbt1 := hO1.bts HPB.out
  have HG1 := HG.out w1 hB1
  have HC : Calls Tryz.prog 120 #[v1] w1 fun e w' => e = .returned (.int .u32 (crcV M)) ∧ w' = w1 := by
    obtain ⟨a, c, B, o, rfl, k1, k2, k3, k4, k5⟩ := hbt1
    exact rcrc_any a B o _ c M w1 k1 k2 rfl k3 k4 k5
  obtain ⟨a1, c1', hv1, _⟩ := bts_src hbt1
  rw [HL.out] at hv1
  rw [hv1] at HC
  have HO1 : Hid (Owns w1 w.heap.size v1 M) := hO1
  rw [hv1] at HO1
  subst hv1
  clear hbt1 hO1 HP HG
  generalize hX : crcV M = X at *
  by_cases hXY : Y = X
  · have hXB : (Y != X) = false := by simpa using hXY
    have HOK : Hid (okB l = true) := by show _ = _; rw [HK.out]; simpa using hXY
    clear HK
    subst hXY
    go_wp2_with (first
      | (go_at_call 77; refine HG1.mono ?_; rintro e w' ⟨rfl, rfl⟩)
      | (go_at_call 120; refine HC.mono ?_; rintro e w4 ⟨rfl, rfl⟩))
    go_ret2
    exact ⟨.inr ⟨HOK.out, _, by rw [HBd.out, HL.out]; rfl, by rw [HBd.out]; exact HO1.out⟩, hB1⟩
  · have hXB : (Y != X) = true := by simpa using hXY
    have HOK : Hid (okB l = false) := by show _ = _; rw [HK.out]; simpa using hXY
    clear HK
    go_wp2_with (first
      | (go_at_call 77; refine HG1.mono ?_; rintro e w' ⟨rfl, rfl⟩)
      | (go_at_call 120; refine HC.mono ?_; rintro e w4 ⟨rfl, rfl⟩))
    go_ret2
    exact ⟨.inl ⟨HOK.out, rfl⟩, hB1⟩

end Go.Proofs.YtafkkehcacdodaaGreat
