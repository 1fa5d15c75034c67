/- The document's first and Scan. -/
import Derived.Test.YtlgkndebhafliaaStrRow
import Derived.Test.YtlgkndebhafliaaM12
import Derived.Test.YtlgkndebhafliaaM7
set_option maxRecDepth 100000
namespace Go.Proofs.Ytlgkndebhafliaa
open Go.RowKit

theorem rget_yesI (b off len cap : Nat) (l : List Int) (q : Int) (p : Nat) (m : Int) (n : Nat) (w : World) (hq : q = p) (hm : m = n) (hl : len ≤ maxLen) (hL : l.length = len) (hb : isBytes l)
    (hs : Sees w b off l) (h1 : 1 ≤ n) (h2 : n ≤ 8) (h3 : p + n ≤ len) :
    Calls Try.prog 76 #[.slice (some ⟨b, off, none⟩) len cap, .int .i64 q, .int .i64 m] w fun e w' => e = .returned (.tuple #[.int .u64 (num ((l.drop p).take n)), .bool true]) ∧ w' = w := by
  subst hq; subst hm
  exact rget_yes b off len cap l p n w hl hL hb hs h1 h2 h3

/-- What first answers. -/
def FirstPost (w : World) (l : List Int) (e : Ending) (w' : World) : Prop :=
  (okB l = false ∧ e = .returned (.tuple #[.slice none 0 0, .int .i64 0]) ∨ okB l = true ∧ ∃ v, e = .returned (.tuple #[v, .int .i64 ((bodyB l).length + 7)]) ∧ Owns w' w.heap.size v (bodyB l)) ∧ Below w.heap.size w w'

theorem okB_not {l : List Int} (h : ¬ (2 ≤ l.length ∧ l.getD 0 0 = 90 ∧ 1 ≤ l.getD 1 0 ∧ l.getD 1 0 ≤ 56 ∧ (l.getD 1 0).toNat + 7 ≤ l.length ∧ l.getD ((l.getD 1 0).toNat + 6) 0 = 165)) : okB l = false := by
  unfold okB
  rw [decide_eq_false_iff_not]
  rintro ⟨h1, h2, h3, h4, h5, h6, _⟩
  exact h ⟨h1, h2, h3, h4, h5, h6⟩

set_option maxHeartbeats 4000000 in
theorem first_any (w : World) (b off cap : Nat) (l : List Int) (hA : At w b off l.length cap l) (hbig : l.length ≤ 900000) :
    Calls Try.prog 49 #[.slice (some ⟨b, off, none⟩) l.length cap] w (FirstPost w l) := by
  have HA : Hid (At w b off l.length cap l) := hA
  have hle := hA.cap1
  have hm := hA.cap2
  unfold maxLen at hm
  have hs := hA.sees
  have hbt := hA.bytes
  clear hA
  by_cases h8 : l.length < 8
  · have h8I : (l.length : Int) < 8 := by omega
    have HN : Hid (okB l = false) := okB_not (by rintro ⟨_, _, h3, _, h5, _⟩; omega)
    clear hs hbt
    go_enter Try.func49, Try.ntmps49
    go_wp2
    go_ret2
    exact ⟨.inl ⟨HN.out, rfl⟩, Below.refl _ _⟩
  have h8I : ¬ (l.length : Int) < 8 := by omega
  have c0 := hs 0 (by omega)
  have c1 := hs 1 (by omega)
  rw [Nat.add_zero] at c0
  obtain ⟨b0, b1⟩ := getD_byte l hbt 1
  by_cases h90 : l.getD 0 0 = 90
  case neg =>
    have h90' : (l.getD 0 0 != 90) = true := by simpa using h90
    have HN : Hid (okB l = false) := okB_not (by rintro ⟨_, h2, _⟩; exact h90 h2)
    clear hs hbt HA h90
    generalize l.getD 0 0 = x0 at *
    generalize l.getD 1 0 = x1 at *
    go_enter Try.func49, Try.ntmps49
    go_wp2
    go_ret2
    exact ⟨.inl ⟨HN.out, rfl⟩, Below.refl _ _⟩
  rw [h90] at c0
  by_cases h1 : l.getD 1 0 < 1
  · have HN : Hid (okB l = false) := okB_not (by rintro ⟨_, _, h, _⟩; omega)
    clear hs hbt HA h90
    generalize l.getD 1 0 = x1 at *
    go_enter Try.func49, Try.ntmps49
    go_wp2
    go_ret2
    exact ⟨.inl ⟨HN.out, rfl⟩, Below.refl _ _⟩
  by_cases h56 : 56 < l.getD 1 0
  · have HN : Hid (okB l = false) := okB_not (by rintro ⟨_, _, _, h, _⟩; omega)
    clear hs hbt HA h90
    generalize l.getD 1 0 = x1 at *
    go_enter Try.func49, Try.ntmps49
    go_wp2
    go_ret2
    exact ⟨.inl ⟨HN.out, rfl⟩, Below.refl _ _⟩
  obtain ⟨N, hN⟩ : ∃ N : Nat, l.getD 1 0 = N := ⟨(l.getD 1 0).toNat, by omega⟩
  have hNt : (l.getD 1 0).toNat = N := by rw [hN]; simp
  rw [hN] at c1 h1 h56 b0 b1
  have h1I : ¬ (N : Int) < 1 := h1
  have h56I : ¬ (56 : Int) < (N : Int) := h56
  by_cases hsh : l.length < N + 7
  · have hshI : (l.length : Int) < (N : Int) + 7 := by omega
    have HN : Hid (okB l = false) := okB_not (by rintro ⟨_, _, _, _, h, _⟩; rw [hNt] at h; omega)
    clear hs hbt HA h90 hN hNt
    go_enter Try.func49, Try.ntmps49
    go_wp2
    go_ret2
    exact ⟨.inl ⟨HN.out, rfl⟩, Below.refl _ _⟩
  have hshI : ¬ (l.length : Int) < (N : Int) + 7 := by omega
  have c6 := hs (N + 6) (by omega)
  by_cases h165 : l.getD (N + 6) 0 = 165
  case neg =>
    have h165' : (l.getD (N + 6) 0 != 165) = true := by simpa using h165
    have HN : Hid (okB l = false) := okB_not (by rintro ⟨_, _, _, _, _, h⟩; rw [hNt] at h; exact h165 h)
    clear hs hbt HA h90 hN hNt h165
    generalize l.getD (N + 6) 0 = x6 at *
    go_enter Try.func49, Try.ntmps49
    go_wp2
    go_ret2
    exact ⟨.inl ⟨HN.out, rfl⟩, Below.refl _ _⟩
  rw [h165] at c6
  have HK : Hid (okB l = decide (num ((l.drop (N + 2)).take 4) = crcV ((l.drop 2).take N))) := by
    have := okB_eq (l := l) (by omega) h90 (by omega) (by omega) (by rw [hNt]; omega) (by rw [hNt]; exact h165)
    rwa [hNt] at this
  have HBd : Hid (bodyB l = (l.drop 2).take N) := by show _ = _; unfold bodyB; rw [hNt]
  have hbl : ((l.drop 2).take N).length = N := by simp; omega
  have HG : Hid (∀ wr, Below w.heap.size w wr → Calls Try.prog 76 #[.slice (some ⟨b, off, none⟩) l.length cap, .int .i64 ((N : Int) + 2), .int .i64 4] wr fun e w' => e = .returned (.tuple #[.int .u64 (num ((l.drop (N + 2)).take 4)), .bool true]) ∧ w' = wr) :=
    fun wr hb => rget_yesI b off l.length cap l ((N : Int) + 2) (N + 2) 4 4 wr (by omega) rfl (by unfold maxLen; omega) rfl hbt (hs.later hb) (by omega) (by omega) (by omega)
  have HP := part_any b off l.length cap l 2 ((N : Int) + 2) 2 (N + 2) w HA.out rfl (by omega) (by omega) (by omega) (by omega)
  rw [Nat.add_sub_cancel] at HP
  have hpb : isBytes ((l.drop 2).take N) := isBytes_part l hbt 2 N
  have HL : Hid (((l.drop 2).take N).length = N) := hbl
  have hcv := crcV_bd _ hpb
  have hnb := num_bd _ (isBytes_part l hbt (N + 2) 4)
  have hn4 : ((l.drop (N + 2)).take 4).length = 4 := by simp; omega
  rw [hn4] at hnb
  have HPB : Hid (isBytes ((l.drop 2).take N)) := hpb
  clear hs hbt HA h90 hN hNt h165 hbl hpb hn4
  generalize num ((l.drop (N + 2)).take 4) = Y at *
  generalize (l.drop 2).take N = M at *
  go_enter Try.func49, Try.ntmps49
  go_wp2_with fail
  refine HP.mono ?_
  rintro e w1 ⟨v1, rfl, hO1, hB1⟩
  have hbt1 := hO1.bts HPB.out
  have HG1 := HG.out w1 hB1
  have HC : Calls Try.prog 47 #[v1] w1 fun e w' => e = .returned (.int .u32 (crcV M)) ∧ w' = w1 := by
    obtain ⟨a, c, B, o, rfl, k1, k2, k3, k4, k5⟩ := hbt1
    exact rcrc_any a B o _ c M w1 k1 k2 rfl k3 k4 k5
  obtain ⟨a1, c1', hv1, _⟩ := bts_src hbt1
  rw [HL.out] at hv1
  rw [hv1] at HC
  have HO1 : Hid (Owns w1 w.heap.size v1 M) := hO1
  rw [hv1] at HO1
  subst hv1
  clear hbt1 hO1 HP HG
  generalize hX : crcV M = X at *
  by_cases hXY : Y = X
  · have hXB : (Y != X) = false := by simpa using hXY
    have HOK : Hid (okB l = true) := by show _ = _; rw [HK.out]; simpa using hXY
    clear HK
    subst hXY
    go_wp2_with (first
      | (go_at_call 76; refine HG1.mono ?_; rintro e w' ⟨rfl, rfl⟩)
      | (go_at_call 47; refine HC.mono ?_; rintro e w4 ⟨rfl, rfl⟩))
    go_ret2
    exact ⟨.inr ⟨HOK.out, _, by rw [HBd.out, HL.out]; rfl, by rw [HBd.out]; exact HO1.out⟩, hB1⟩
  · have hXB : (Y != X) = true := by simpa using hXY
    have HOK : Hid (okB l = false) := by show _ = _; rw [HK.out]; simpa using hXY
    clear HK
    go_wp2_with (first
      | (go_at_call 76; refine HG1.mono ?_; rintro e w' ⟨rfl, rfl⟩)
      | (go_at_call 47; refine HC.mono ?_; rintro e w4 ⟨rfl, rfl⟩))
    go_ret2
    exact ⟨.inl ⟨HOK.out, rfl⟩, hB1⟩

end Go.Proofs.Ytlgkndebhafliaa

namespace Go.Proofs.Ytlgkndebhafliaa
open Go.RowKit

set_option maxHeartbeats 4000000 in
theorem rscan_ok (w : World) (v0 : Value) (l : List Int) (h : Bts w v0 l) (hbig : l.length ≤ 900000) :
    Calls Try.prog 20 #[v0] w fun e w' => ∃ v vs, e = .returned v ∧ Lst w' w.heap.size v vs (scanB l) ∧ Below w.heap.size w w' := by
  obtain ⟨a, cap, b, off, rfl, hl, hm, hbb, ha, hs⟩ := h
  have hm' := hm
  unfold maxLen at hm'
  have HF : Hid (∀ k wr, k < l.length → Below w.heap.size w wr → Calls Try.prog 49 #[.slice (some ⟨b, off + k, none⟩) (l.length - k) (cap - k)] wr (FirstPost wr (l.drop k))) := fun k wr hk hb => by
    have hA : At wr b (off + k) (l.drop k).length (cap - k) (l.drop k) := ⟨by rw [List.length_drop]; omega, by omega, rfl, isBytes_drop hbb k, by
      have := sees_part hs k (l.length - k) (by omega)
      rw [List.take_of_length_le (by simp)] at this
      exact this.later hb⟩
    have := first_any wr b (off + k) (cap - k) (l.drop k) hA (by rw [List.length_drop]; omega)
    rwa [List.length_drop] at this
  clear hs
  go_enter Try.func20, Try.ntmps20
  go_wp2
  go_loopg [3, 4] l.length (fun gk v i wr => ∃ (k : Nat) (ls : List (List Int)) (vs : List Value), k + gk = l.length ∧ i = .int .i64 k ∧ Lst wr w.heap.size v vs ls ∧ ls ++ scanB (l.drop k) = scanB l ∧ ls.length ≤ k ∧ Below w.heap.size w wr)
  case atStart => exact ⟨0, [], [], by omega, rfl, lst_nil _ _, by simp, by simp, Below.refl _ _⟩
  case round =>
    obtain ⟨k, ls, vs, hk, rfl, hL, hE, hll, hB⟩ := hrel
    have HE : Hid (ls ++ scanB (l.drop k) = scanB l) := hE
    clear hE
    by_cases hlt : k < l.length
    case neg =>
      have hge : ¬ (k : Int) < (l.length : Int) := by omega
      have hke : k = l.length := by omega
      have HQ : Hid (ls = scanB l) := by
        have := HE.out
        rwa [hke, List.drop_length, scanB_no (okB_nil (by simp)), List.append_nil] at this
      go_wp2
      go_ret
      exact ⟨_, rfl, ⟨vs, by rw [← HQ.out]; exact hL⟩, hB⟩
    have hltI : (k : Int) < (l.length : Int) := by omega
    rcases ha with rfl | hnil
    case inr => rw [hnil] at hlt; simp at hlt
    have HF1 := HF.out k wr hlt hB
    obtain ⟨av, cv, hvv⟩ := win_shape hL.win
    subst hvv
    go_wp2_with fail
    refine HF1.mono ?_
    rintro e w1 ⟨⟨hk0, rfl⟩ | ⟨hk1, v1, rfl, hO1⟩, hB1⟩
    · have HQ : Hid (ls = scanB l) := by
        have := HE.out
        rwa [scanB_no hk0, List.append_nil] at this
      go_wp2
      go_ret
      exact ⟨_, vs, rfl, by rw [← HQ.out]; exact hL.later hB1, hB.trans (hB1.mono hB.size)⟩
    · obtain ⟨hx0, hb1, hb2, hb3⟩ := bodyB_len hk1
      clear hx0
      have HE2 : Hid ((ls ++ [bodyB (l.drop k)]) ++ scanB (l.drop (k + ((bodyB (l.drop k)).length + 7))) = scanB l) := by
        show _ = _
        rw [← HE.out, scanB_yes hk1, List.drop_drop, List.append_assoc]
        rfl
      have hbt := hO1.bts (bodyB_bytes (isBytes_drop hbb k))
      obtain ⟨v', w3, e1, e2, _, e4, ⟨a5, c5, e5⟩⟩ := hL.push hB1 hbt (fun g hg => hO1.lt g hg) hB.size (by omega)
      have R2 : Below w.heap.size w w3 := by
        have hs1 := hB1.size
        have hs2 := hB.size
        exact (hB.trans ((hB1.trans ((below_alloc w1 _).mono hs1)).mono hB.size)).grown e4 (by simp; omega) (fun g hg => hL.blk g hg)
      rw [List.length_drop] at hb3
      obtain ⟨ua, uc, hv1, _⟩ := bts_src hbt
      subst hv1
      subst e5
      clear hbt hO1 hL hB hB1 HF1 e4 HE hk1
      generalize bodyB (l.drop k) = x at *
      have hz : ((x.length : Int) + 7 == 0) = false := by simp; omega
      go_wp2_with (at_builtin; refine wpl_append_run rfl _ _ 40 rfl _ _ rfl rfl e1 ?_)
      go_roundg (l.length - (k + (x.length + 7)))
      case rel => exact ⟨k + (x.length + 7), ls ++ [x], _, by omega, by go_num, e2, HE2.out, by simp; omega, R2⟩
      case measure => omega

end Go.Proofs.Ytlgkndebhafliaa
