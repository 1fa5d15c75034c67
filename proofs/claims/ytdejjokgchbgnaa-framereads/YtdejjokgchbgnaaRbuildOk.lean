/- The contract of Build in the document's own answer, where all may be. -/
import Derived.Test.YtdejjokgchbgnaaRow
import Derived.Test.YtdejjokgchbgnaaRbuildNo
import Derived.Test.YtdejjokgchbgnaaBeside
set_option maxRecDepth 100000
namespace Go.Proofs.Ytdejjokgchbgnaa
open Go.RowKit

theorem bts_lit4 (w : World) (a b : Int) (ha : 0 ≤ a ∧ a < 256) (hb : 0 ≤ b ∧ b < 256) : Bts (w.alloc (.cells #[.int .u8 a, .int .u8 b, .int .u8 0, .int .u8 0] 5)) (.slice (some ⟨w.heap.size, 0, none⟩) 4 4) [a, b, 0, 0] := by
  refine ⟨_, 4, w.heap.size, 0, rfl, by simp, by decide, ?_, .inl rfl, ?_⟩
  · intro z hz; simp at hz; rcases hz with rfl | rfl | rfl <;> omega
  · intro i hi
    have : i = 0 ∨ i = 1 ∨ i = 2 ∨ i = 3 := by simp at hi; omega
    rcases this with rfl | rfl | rfl | rfl <;> simp

theorem boxes9 {w w' : World} {p : Dg} {vo vb : Value} {t : TypeId} (hb : Below (w.alloc (.cells (ipC p vo vb) t)).heap.size (w.alloc (.cells (ipC p vo vb) t)) w') : w'.cell? ⟨w.heap.size, 9, none⟩ = some vo ∧ w'.cell? ⟨w.heap.size, 10, none⟩ = some vb := ⟨box_cell hb 9 _ rfl, box_cell hb 10 _ rfl⟩

set_option maxRecDepth 100000 in
set_option maxHeartbeats 4000000 in
theorem rbuild_ok_tt (p : Dg) (ao ab : Option Addr) (co cb : Nat) (w : World) (k : p.Ok) (f : Fits p) (hO : Bts w (.slice ao p.opts.length co) p.opts) (hB : Bts w (.slice ab p.body.length cb) p.body) (hdf : p.df = true) (hmf : p.mf = true) :
    Calls Try.prog 11 #[ipV p (.slice ao p.opts.length co) (.slice ab p.body.length cb)] w fun e w' =>
      ∃ v, e = .returned (.tuple #[v, .int .i64 0]) ∧ Owns w' w.heap.size v (built p) ∧ Below w.heap.size w w' := by
  have g0 : inBb p.tos 255 = true := decide_eq_true f.tos
  have g1 : inBb p.ttl 255 = true := decide_eq_true f.ttl
  have g2 : inBb p.proto 255 = true := decide_eq_true f.proto
  have g3 : inBb p.id 65535 = true := decide_eq_true f.id
  have g4 : inBb p.off 8191 = true := decide_eq_true f.off
  have HK : Hid (p.Ok) := k
  have HF : Hid (Fits p) := f
  have HFL : Hid (flagsI p = p.off + 24576) := by show _ = _; unfold flagsI flagI; rw [hdf, hmf]; simp; try omega
  have K1 := k.src0
  have K2 := k.src1
  have K3 := k.dst0
  have K4 := k.dst1
  obtain ⟨⟨t0, t1⟩, ⟨l0, l1⟩, ⟨q0, q1⟩, ⟨i0, i1⟩, ⟨o0, o1⟩, o40, o4, hall⟩ := f
  have hlen : p.opts.length + p.body.length ≤ 2028 := by unfold totalI at hall; omega
  have HT : Hid (totalI p = 20 + (p.opts.length : Int) + (p.body.length : Int)) := rfl
  have hor1 := or64 ((20 + (p.opts.length : Int)) / 4) (by omega) (by omega)
  have hoA := orA p.off o0 o1
  have hoB := orB p.off o0 o1
  have hoC := orC p.off o0 o1
  have k5 : ¬ (40 : Int) < (p.opts.length : Int) := by omega
  have k6 : (((p.opts.length : Int) % 4) != 0) = false := by simp; omega
  have k7 : ¬ (2048 : Int) - (20 + (p.opts.length : Int)) < (p.body.length : Int) := by omega
  obtain ⟨oa, oc, ob, oo, hoe, ho2, ho3, ho4, ho5, ho6⟩ := hO
  obtain ⟨ba, bc, bb, bo, hbe, hb2, hb3, hb4, hb5, hb6⟩ := hB
  simp only [Value.slice.injEq, true_and] at hoe hbe
  obtain ⟨rfl, rfl⟩ := hoe
  obtain ⟨rfl, rfl⟩ := hbe
  clear k o4 hall
  go_enter Try.func11, Try.ntmps11
  go_wp2_with (first | (go_at_call 24; refine (in_any _ _ _).mono ?_; rintro e w' ⟨rfl, rfl⟩))
  obtain ⟨w0, hw0⟩ : ∃ w0, w0 = w.alloc (.cells #[.int .i64 p.tos, .int .i64 p.id, .bool true, .bool true, .int .i64 p.off, .int .i64 p.ttl, .int .i64 p.proto, .int .u32 p.src, .int .u32 p.dst, .slice ao p.opts.length co, .slice ab p.body.length cb] 29) := ⟨_, rfl⟩
  rw [← hw0]
  have hsz0 : w0.heap.size = w.heap.size + 1 := by rw [hw0]; simp
  have hbw0 : Below w.heap.size w w0 := by rw [hw0]; exact below_alloc _ _
  have HC : Hid (∀ (w' : World), Below (w.heap.size + 1) w0 w' → ∀ i v, (#[.int .i64 p.tos, .int .i64 p.id, .bool true, .bool true, .int .i64 p.off, .int .i64 p.ttl, .int .i64 p.proto, .int .u32 p.src, .int .u32 p.dst, .slice ao p.opts.length co, .slice ab p.body.length cb] : Array Value)[i]? = some v → w'.cell? ⟨w.heap.size, i, none⟩ = some v) := by
    intro w' hb i v hv
    rw [hb.cell (by show w.heap.size < w.heap.size + 1; omega), hw0, World.cell?_alloc_mark w _ _ (0, 0) i]
    exact hv
  have hO0 : Owns (w0.alloc (.cells #[.int .u8 (64 + (20 + (p.opts.length : Int)) / 4), .int .u8 p.tos] 5)) (w.heap.size + 1) (.slice (some ⟨w.heap.size + 1, 0, none⟩) 2 2) [64 + (20 + (p.opts.length : Int)) / 4, p.tos] := by
    have := owns_lit2 w0 (64 + (20 + (p.opts.length : Int)) / 4) p.tos
    rwa [hsz0] at this
  have hb00 : Below (w.heap.size + 1) w0 (w0.alloc (.cells #[.int .u8 (64 + (20 + (p.opts.length : Int)) / 4), .int .u8 p.tos] 5)) := by rw [← hsz0]; exact below_alloc _ _
  refine (lay_any _ (w.heap.size + 1) _ _ 2 2 _ w0 hO0 (by simp; omega) (by simp) rfl (by decide) hb00).mono ?_
  rintro e w1 ⟨v1, rfl, ho1, hb1, hz1⟩
  have d1 : w1.cell? ⟨w.heap.size, 1, none⟩ = some (.int .i64 p.id) := HC.out w1 hb1 1 _ rfl
  clear hO0 hb00 hw0
  go_wp2_with fail
  refine (lay_any _ (w.heap.size + 1) _ _ 2 2 _ w0 ho1 hz1 (by simp [bytesOfN]) rfl (by decide) hb1).mono ?_
  rintro e w2' ⟨v2, rfl, ho2', hb2', hz2⟩
  clear ho1 hb1 hz1 d1
  go_wp2_with fail
  refine (lay_any _ (w.heap.size + 1) _ _ 2 2 _ w0 ho2' hz2 (by simp [bytesOfN]) rfl (by decide) hb2').mono ?_
  rintro e w3 ⟨v3, rfl, ho3', hb3', hz3⟩
  clear ho2' hb2' hz2
  have d5 : w3.cell? ⟨w.heap.size, 5, none⟩ = some (.int .i64 p.ttl) := HC.out w3 hb3' 5 _ rfl
  have d6 : w3.cell? ⟨w.heap.size, 6, none⟩ = some (.int .i64 p.proto) := HC.out w3 hb3' 6 _ rfl
  obtain ⟨v4, w4, hrun4, ho4', hb4'⟩ := append_bts (w3.alloc (.cells #[.int .u8 p.ttl, .int .u8 p.proto, .int .u8 0, .int .u8 0] 5)) (w.heap.size + 1) v3 _ _ _ (World.ownsRow.alloc ho3' _) (bts_lit4 w3 p.ttl p.proto (by omega) (by omega)) (by simp; omega) (by simp [bytesOfN])
  have hb4'' : Below (w.heap.size + 1) w0 w4 := (hb3'.alloc hz3 _).trans hb4'
  have hz4 : w.heap.size + 1 ≤ w4.heap.size := by have := hb4'.size; simp only [World.size_alloc] at this; omega
  have d7 : w4.cell? ⟨w.heap.size, 7, none⟩ = some (.int .u32 p.src) := HC.out w4 hb4'' 7 _ rfl
  clear ho3' hb3' hb4'
  go_wp2_with (at_builtin; refine Lib.wpList_append_run_sl _ rfl _ _ 23 rfl _ _ rfl rfl hrun4 ?_)
  refine (lay_any _ (w.heap.size + 1) _ _ 4 4 _ w0 ho4' hz4 (by simp [bytesOfN]) rfl (by decide) hb4'').mono ?_
  rintro e w5 ⟨v5, rfl, ho5', hb5', hz5⟩
  have d8 : w5.cell? ⟨w.heap.size, 8, none⟩ = some (.int .u32 p.dst) := HC.out w5 hb5' 8 _ rfl
  clear ho4' hb4'' hz4 d7 d5 d6 hrun4 hz3
  go_wp2_with fail
  refine (lay_any _ (w.heap.size + 1) _ _ 4 4 _ w0 ho5' hz5 (by simp [bytesOfN]) rfl (by decide) hb5').mono ?_
  rintro e w6 ⟨v6, rfl, ho6', hb6', hz6⟩
  clear ho5' hb5' hz5 d8
  have hr : Owns w6 (w.heap.size + 1) v6 (rhead p) := by
    unfold rhead
    rw [HT.out, HFL.out]
    have e256a : p.src / 16777216 % 256 = p.src / 16777216 := by omega
    have e256b : p.dst / 16777216 % 256 = p.dst / 16777216 := by omega
    simpa [bytesOfN, e256a, e256b] using ho6'
  clear ho6'
  go_wp2
  go_loopw [6, 7] (fun v i wr => ∃ t : Nat, t ≤ p.opts.length ∧ i = .int .i64 (t : Int) ∧ Owns wr (w.heap.size + 1) v (rhead p ++ p.opts.take t) ∧ Below (w.heap.size + 1) w0 wr ∧ w.heap.size + 1 ≤ wr.heap.size) (fun _ i _ => p.opts.length - (intOf i).toNat)
  case atStart => exact ⟨0, Nat.zero_le _, rfl, by simpa using hr, hb6', hz6⟩
  case round =>
    obtain ⟨t, ht, rfl, hown, hbel, hsz⟩ := hrel
    have d9 : wr.cell? ⟨w.heap.size, 9, none⟩ = some (.slice ao p.opts.length co) := HC.out wr hbel 9 _ rfl
    by_cases hlt : t < p.opts.length
    · rcases ho5 with rfl | hnil
      case inr => rw [hnil] at hlt; simp at hlt
      have hbwr : Below w.heap.size w wr := hbw0.trans (hbel.mono (by omega))
      have hcell : wr.cell? ⟨ob, oo + t, none⟩ = some (.int .u8 (p.opts.getD t 0)) := cell_later hbwr (ho6 t hlt)
      have hts : Hid (rhead p ++ p.opts.take (t + 1) = (rhead p ++ p.opts.take t) ++ [p.opts.getD t 0]) := by show _ = _; rw [take_snoc p.opts t hlt, List.append_assoc]
      obtain ⟨v', w1', hrun, ho, hb⟩ := append_one wr (w.heap.size + 1) _ _ (p.opts.getD t 0) hown hsz (by rw [List.length_append, List.length_take]; simp [rhead]; omega)
      have htb : (t : Int) < (p.opts.length : Int) := by omega
      have R1 : Owns w1' (w.heap.size + 1) v' (rhead p ++ p.opts.take (t + 1)) := by rw [hts.out]; exact ho
      have R2 := hbel.trans hb
      have R3 := Nat.le_trans hsz hb.size
      clear hts ho hb
      generalize p.opts.getD t 0 = c at *
      go_wp2_with (at_builtin; refine Lib.wpList_append_run_sl _ rfl _ _ 23 rfl _ _ rfl rfl hrun ?_)
      go_roundw
      case rel => exact ⟨t + 1, by omega, by go_num, R1, R2, R3⟩
      case measure => simp [intOf]; omega
    · have hte : t = p.opts.length := by omega
      subst hte
      rw [List.take_length, rhead_eq p HK.out HF.out] at hown
      obtain ⟨G, cg, rfl, hH⟩ := holds8_of_owns hown (head_length p 0) (by omega)
      clear hr hb6' hz6
      go_wp2_with fail
      refine (one_any _ (headB p 0) _ (hown.bts (head_bytes p 0 HK.out.opts)) (by rw [head_length]; omega)).mono ?_
      rintro e w7 ⟨rfl, hb7⟩
      have hH7 := hH.later hb7
      have hb7' : Below (w.heap.size + 1) w0 w7 := hbel.trans (hb7.mono hsz)
      have hz7 : w.heap.size + 1 ≤ w7.heap.size := Nat.le_trans hsz hb7.size
      have hG := hH7.base
      have c10 := hH7.cell 10 (by omega)
      have c11 := hH7.cell 11 (by omega)
      have f10 := hH7.2.frozenAt 10
      have f11 := hH7.2.frozenAt 11
      have i10 : (10 : Int) < 20 + (p.opts.length : Int) := by omega
      have i11 : (11 : Int) < 20 + (p.opts.length : Int) := by omega
      have HS : Hid (checkI p = 65535 - fold16 (ws (headB p 0))) := by show _ = _; unfold checkI; rw [turn_fold]
      have hS := fold16_bd (ws (headB p 0))
      generalize fold16 (ws (headB p 0)) = S at *
      clear hown hH hb7 d9
      obtain ⟨S0, S1⟩ := hS
      have hS2 : 0 ≤ 65535 - S := by omega
      go_wp2
      have hHf : Holds8 ((w7.setCell ⟨G, 10, none⟩ (.int .u8 ((65535 - S) / 256))).setCell ⟨G, 11, none⟩ (.int .u8 ((65535 - S) % 256))) (w.heap.size + 1) G (20 + p.opts.length) cg (headB p (checkI p)) := by
        have := (hH7.store 10 ((65535 - S) / 256)).store 11 ((65535 - S) % 256)
        have e : ((headB p 0).set 10 ((65535 - S) / 256)).set 11 ((65535 - S) % 256) = headB p (checkI p) := by rw [← HS.out]; exact rcheck p
        rw [e] at this
        exact this
      have hbf : Below (w.heap.size + 1) w0 ((w7.setCell ⟨G, 10, none⟩ (.int .u8 ((65535 - S) / 256))).setCell ⟨G, 11, none⟩ (.int .u8 ((65535 - S) % 256))) := (hb7'.setCell (by exact hG) _).setCell (by exact hG) _
      have hzf : w.heap.size + 1 ≤ ((w7.setCell ⟨G, 10, none⟩ (.int .u8 ((65535 - S) / 256))).setCell ⟨G, 11, none⟩ (.int .u8 ((65535 - S) % 256))).heap.size := by simpa using hz7
      generalize ((w7.setCell ⟨G, 10, none⟩ (.int .u8 ((65535 - S) / 256))).setCell ⟨G, 11, none⟩ (.int .u8 ((65535 - S) % 256))) = w8 at *
      clear hH7 hb7' hz7 c10 c11 f10 f11 HS hbel hsz
      have hof := hHf.owns
      clear hHf
      go_loopw [6, 9] (fun v i wr => ∃ t : Nat, t ≤ p.body.length ∧ i = .int .i64 (t : Int) ∧ Owns wr (w.heap.size + 1) v (headB p (checkI p) ++ p.body.take t) ∧ Below (w.heap.size + 1) w0 wr ∧ w.heap.size + 1 ≤ wr.heap.size) (fun _ i _ => p.body.length - (intOf i).toNat)
      case atStart => exact ⟨0, Nat.zero_le _, rfl, by simpa using hof, hbf, hzf⟩
      case round =>
        obtain ⟨t, ht, rfl, hown, hbel, hsz⟩ := hrel
        have d10 : wr.cell? ⟨w.heap.size, 10, none⟩ = some (.slice ab p.body.length cb) := HC.out wr hbel 10 _ rfl
        by_cases hlt : t < p.body.length
        · rcases hb5 with rfl | hnil
          case inr => rw [hnil] at hlt; simp at hlt
          have hbwr : Below w.heap.size w wr := hbw0.trans (hbel.mono (by omega))
          have hcell : wr.cell? ⟨bb, bo + t, none⟩ = some (.int .u8 (p.body.getD t 0)) := cell_later hbwr (hb6 t hlt)
          have hts : Hid (headB p (checkI p) ++ p.body.take (t + 1) = (headB p (checkI p) ++ p.body.take t) ++ [p.body.getD t 0]) := by show _ = _; rw [take_snoc p.body t hlt, List.append_assoc]
          obtain ⟨v', w1', hrun, ho, hb⟩ := append_one wr (w.heap.size + 1) _ _ (p.body.getD t 0) hown hsz (by rw [List.length_append, List.length_take, head_length]; omega)
          have htb : (t : Int) < (p.body.length : Int) := by omega
          have R1 : Owns w1' (w.heap.size + 1) v' (headB p (checkI p) ++ p.body.take (t + 1)) := by rw [hts.out]; exact ho
          have R2 := hbel.trans hb
          have R3 := Nat.le_trans hsz hb.size
          clear hts ho hb
          generalize p.body.getD t 0 = c at *
          go_wp2_with (at_builtin; refine Lib.wpList_append_run_sl _ rfl _ _ 23 rfl _ _ rfl rfl hrun ?_)
          go_roundw
          case rel => exact ⟨t + 1, by omega, by go_num, R1, R2, R3⟩
          case measure => simp [intOf]; omega
        · have hte : t = p.body.length := by omega
          subst hte
          rw [List.take_length] at hown
          have hbt : Owns wr w.heap.size _ (built p) := hown.low (by omega)
          clear hown hof
          go_wp2
          go_ret2
          exact ⟨_, rfl, hbt, hbw0.trans (hbel.mono (by omega))⟩

set_option maxRecDepth 100000 in
set_option maxHeartbeats 4000000 in
theorem rbuild_ok_ff (p : Dg) (ao ab : Option Addr) (co cb : Nat) (w : World) (k : p.Ok) (f : Fits p) (hO : Bts w (.slice ao p.opts.length co) p.opts) (hB : Bts w (.slice ab p.body.length cb) p.body) (hdf : p.df = false) (hmf : p.mf = false) :
    Calls Try.prog 11 #[ipV p (.slice ao p.opts.length co) (.slice ab p.body.length cb)] w fun e w' =>
      ∃ v, e = .returned (.tuple #[v, .int .i64 0]) ∧ Owns w' w.heap.size v (built p) ∧ Below w.heap.size w w' := by
  have g0 : inBb p.tos 255 = true := decide_eq_true f.tos
  have g1 : inBb p.ttl 255 = true := decide_eq_true f.ttl
  have g2 : inBb p.proto 255 = true := decide_eq_true f.proto
  have g3 : inBb p.id 65535 = true := decide_eq_true f.id
  have g4 : inBb p.off 8191 = true := decide_eq_true f.off
  have HK : Hid (p.Ok) := k
  have HF : Hid (Fits p) := f
  have HFL : Hid (flagsI p = p.off) := by show _ = _; unfold flagsI flagI; rw [hdf, hmf]; simp; try omega
  have K1 := k.src0
  have K2 := k.src1
  have K3 := k.dst0
  have K4 := k.dst1
  obtain ⟨⟨t0, t1⟩, ⟨l0, l1⟩, ⟨q0, q1⟩, ⟨i0, i1⟩, ⟨o0, o1⟩, o40, o4, hall⟩ := f
  have hlen : p.opts.length + p.body.length ≤ 2028 := by unfold totalI at hall; omega
  have HT : Hid (totalI p = 20 + (p.opts.length : Int) + (p.body.length : Int)) := rfl
  have hor1 := or64 ((20 + (p.opts.length : Int)) / 4) (by omega) (by omega)
  have hoA := orA p.off o0 o1
  have hoB := orB p.off o0 o1
  have hoC := orC p.off o0 o1
  have k5 : ¬ (40 : Int) < (p.opts.length : Int) := by omega
  have k6 : (((p.opts.length : Int) % 4) != 0) = false := by simp; omega
  have k7 : ¬ (2048 : Int) - (20 + (p.opts.length : Int)) < (p.body.length : Int) := by omega
  obtain ⟨oa, oc, ob, oo, hoe, ho2, ho3, ho4, ho5, ho6⟩ := hO
  obtain ⟨ba, bc, bb, bo, hbe, hb2, hb3, hb4, hb5, hb6⟩ := hB
  simp only [Value.slice.injEq, true_and] at hoe hbe
  obtain ⟨rfl, rfl⟩ := hoe
  obtain ⟨rfl, rfl⟩ := hbe
  clear k o4 hall
  go_enter Try.func11, Try.ntmps11
  go_wp2_with (first | (go_at_call 24; refine (in_any _ _ _).mono ?_; rintro e w' ⟨rfl, rfl⟩))
  obtain ⟨w0, hw0⟩ : ∃ w0, w0 = w.alloc (.cells #[.int .i64 p.tos, .int .i64 p.id, .bool false, .bool false, .int .i64 p.off, .int .i64 p.ttl, .int .i64 p.proto, .int .u32 p.src, .int .u32 p.dst, .slice ao p.opts.length co, .slice ab p.body.length cb] 29) := ⟨_, rfl⟩
  rw [← hw0]
  have hsz0 : w0.heap.size = w.heap.size + 1 := by rw [hw0]; simp
  have hbw0 : Below w.heap.size w w0 := by rw [hw0]; exact below_alloc _ _
  have HC : Hid (∀ (w' : World), Below (w.heap.size + 1) w0 w' → ∀ i v, (#[.int .i64 p.tos, .int .i64 p.id, .bool false, .bool false, .int .i64 p.off, .int .i64 p.ttl, .int .i64 p.proto, .int .u32 p.src, .int .u32 p.dst, .slice ao p.opts.length co, .slice ab p.body.length cb] : Array Value)[i]? = some v → w'.cell? ⟨w.heap.size, i, none⟩ = some v) := by
    intro w' hb i v hv
    rw [hb.cell (by show w.heap.size < w.heap.size + 1; omega), hw0, World.cell?_alloc_mark w _ _ (0, 0) i]
    exact hv
  have hO0 : Owns (w0.alloc (.cells #[.int .u8 (64 + (20 + (p.opts.length : Int)) / 4), .int .u8 p.tos] 5)) (w.heap.size + 1) (.slice (some ⟨w.heap.size + 1, 0, none⟩) 2 2) [64 + (20 + (p.opts.length : Int)) / 4, p.tos] := by
    have := owns_lit2 w0 (64 + (20 + (p.opts.length : Int)) / 4) p.tos
    rwa [hsz0] at this
  have hb00 : Below (w.heap.size + 1) w0 (w0.alloc (.cells #[.int .u8 (64 + (20 + (p.opts.length : Int)) / 4), .int .u8 p.tos] 5)) := by rw [← hsz0]; exact below_alloc _ _
  refine (lay_any _ (w.heap.size + 1) _ _ 2 2 _ w0 hO0 (by simp; omega) (by simp) rfl (by decide) hb00).mono ?_
  rintro e w1 ⟨v1, rfl, ho1, hb1, hz1⟩
  have d1 : w1.cell? ⟨w.heap.size, 1, none⟩ = some (.int .i64 p.id) := HC.out w1 hb1 1 _ rfl
  clear hO0 hb00 hw0
  go_wp2_with fail
  refine (lay_any _ (w.heap.size + 1) _ _ 2 2 _ w0 ho1 hz1 (by simp [bytesOfN]) rfl (by decide) hb1).mono ?_
  rintro e w2' ⟨v2, rfl, ho2', hb2', hz2⟩
  clear ho1 hb1 hz1 d1
  go_wp2_with fail
  refine (lay_any _ (w.heap.size + 1) _ _ 2 2 _ w0 ho2' hz2 (by simp [bytesOfN]) rfl (by decide) hb2').mono ?_
  rintro e w3 ⟨v3, rfl, ho3', hb3', hz3⟩
  clear ho2' hb2' hz2
  have d5 : w3.cell? ⟨w.heap.size, 5, none⟩ = some (.int .i64 p.ttl) := HC.out w3 hb3' 5 _ rfl
  have d6 : w3.cell? ⟨w.heap.size, 6, none⟩ = some (.int .i64 p.proto) := HC.out w3 hb3' 6 _ rfl
  obtain ⟨v4, w4, hrun4, ho4', hb4'⟩ := append_bts (w3.alloc (.cells #[.int .u8 p.ttl, .int .u8 p.proto, .int .u8 0, .int .u8 0] 5)) (w.heap.size + 1) v3 _ _ _ (World.ownsRow.alloc ho3' _) (bts_lit4 w3 p.ttl p.proto (by omega) (by omega)) (by simp; omega) (by simp [bytesOfN])
  have hb4'' : Below (w.heap.size + 1) w0 w4 := (hb3'.alloc hz3 _).trans hb4'
  have hz4 : w.heap.size + 1 ≤ w4.heap.size := by have := hb4'.size; simp only [World.size_alloc] at this; omega
  have d7 : w4.cell? ⟨w.heap.size, 7, none⟩ = some (.int .u32 p.src) := HC.out w4 hb4'' 7 _ rfl
  clear ho3' hb3' hb4'
  go_wp2_with (at_builtin; refine Lib.wpList_append_run_sl _ rfl _ _ 23 rfl _ _ rfl rfl hrun4 ?_)
  refine (lay_any _ (w.heap.size + 1) _ _ 4 4 _ w0 ho4' hz4 (by simp [bytesOfN]) rfl (by decide) hb4'').mono ?_
  rintro e w5 ⟨v5, rfl, ho5', hb5', hz5⟩
  have d8 : w5.cell? ⟨w.heap.size, 8, none⟩ = some (.int .u32 p.dst) := HC.out w5 hb5' 8 _ rfl
  clear ho4' hb4'' hz4 d7 d5 d6 hrun4 hz3
  go_wp2_with fail
  refine (lay_any _ (w.heap.size + 1) _ _ 4 4 _ w0 ho5' hz5 (by simp [bytesOfN]) rfl (by decide) hb5').mono ?_
  rintro e w6 ⟨v6, rfl, ho6', hb6', hz6⟩
  clear ho5' hb5' hz5 d8
  have hr : Owns w6 (w.heap.size + 1) v6 (rhead p) := by
    unfold rhead
    rw [HT.out, HFL.out]
    have e256a : p.src / 16777216 % 256 = p.src / 16777216 := by omega
    have e256b : p.dst / 16777216 % 256 = p.dst / 16777216 := by omega
    simpa [bytesOfN, e256a, e256b] using ho6'
  clear ho6'
  go_wp2
  go_loopw [6, 7] (fun v i wr => ∃ t : Nat, t ≤ p.opts.length ∧ i = .int .i64 (t : Int) ∧ Owns wr (w.heap.size + 1) v (rhead p ++ p.opts.take t) ∧ Below (w.heap.size + 1) w0 wr ∧ w.heap.size + 1 ≤ wr.heap.size) (fun _ i _ => p.opts.length - (intOf i).toNat)
  case atStart => exact ⟨0, Nat.zero_le _, rfl, by simpa using hr, hb6', hz6⟩
  case round =>
    obtain ⟨t, ht, rfl, hown, hbel, hsz⟩ := hrel
    have d9 : wr.cell? ⟨w.heap.size, 9, none⟩ = some (.slice ao p.opts.length co) := HC.out wr hbel 9 _ rfl
    by_cases hlt : t < p.opts.length
    · rcases ho5 with rfl | hnil
      case inr => rw [hnil] at hlt; simp at hlt
      have hbwr : Below w.heap.size w wr := hbw0.trans (hbel.mono (by omega))
      have hcell : wr.cell? ⟨ob, oo + t, none⟩ = some (.int .u8 (p.opts.getD t 0)) := cell_later hbwr (ho6 t hlt)
      have hts : Hid (rhead p ++ p.opts.take (t + 1) = (rhead p ++ p.opts.take t) ++ [p.opts.getD t 0]) := by show _ = _; rw [take_snoc p.opts t hlt, List.append_assoc]
      obtain ⟨v', w1', hrun, ho, hb⟩ := append_one wr (w.heap.size + 1) _ _ (p.opts.getD t 0) hown hsz (by rw [List.length_append, List.length_take]; simp [rhead]; omega)
      have htb : (t : Int) < (p.opts.length : Int) := by omega
      have R1 : Owns w1' (w.heap.size + 1) v' (rhead p ++ p.opts.take (t + 1)) := by rw [hts.out]; exact ho
      have R2 := hbel.trans hb
      have R3 := Nat.le_trans hsz hb.size
      clear hts ho hb
      generalize p.opts.getD t 0 = c at *
      go_wp2_with (at_builtin; refine Lib.wpList_append_run_sl _ rfl _ _ 23 rfl _ _ rfl rfl hrun ?_)
      go_roundw
      case rel => exact ⟨t + 1, by omega, by go_num, R1, R2, R3⟩
      case measure => simp [intOf]; omega
    · have hte : t = p.opts.length := by omega
      subst hte
      rw [List.take_length, rhead_eq p HK.out HF.out] at hown
      obtain ⟨G, cg, rfl, hH⟩ := holds8_of_owns hown (head_length p 0) (by omega)
      clear hr hb6' hz6
      go_wp2_with fail
      refine (one_any _ (headB p 0) _ (hown.bts (head_bytes p 0 HK.out.opts)) (by rw [head_length]; omega)).mono ?_
      rintro e w7 ⟨rfl, hb7⟩
      have hH7 := hH.later hb7
      have hb7' : Below (w.heap.size + 1) w0 w7 := hbel.trans (hb7.mono hsz)
      have hz7 : w.heap.size + 1 ≤ w7.heap.size := Nat.le_trans hsz hb7.size
      have hG := hH7.base
      have c10 := hH7.cell 10 (by omega)
      have c11 := hH7.cell 11 (by omega)
      have f10 := hH7.2.frozenAt 10
      have f11 := hH7.2.frozenAt 11
      have i10 : (10 : Int) < 20 + (p.opts.length : Int) := by omega
      have i11 : (11 : Int) < 20 + (p.opts.length : Int) := by omega
      have HS : Hid (checkI p = 65535 - fold16 (ws (headB p 0))) := by show _ = _; unfold checkI; rw [turn_fold]
      have hS := fold16_bd (ws (headB p 0))
      generalize fold16 (ws (headB p 0)) = S at *
      clear hown hH hb7 d9
      obtain ⟨S0, S1⟩ := hS
      have hS2 : 0 ≤ 65535 - S := by omega
      go_wp2
      have hHf : Holds8 ((w7.setCell ⟨G, 10, none⟩ (.int .u8 ((65535 - S) / 256))).setCell ⟨G, 11, none⟩ (.int .u8 ((65535 - S) % 256))) (w.heap.size + 1) G (20 + p.opts.length) cg (headB p (checkI p)) := by
        have := (hH7.store 10 ((65535 - S) / 256)).store 11 ((65535 - S) % 256)
        have e : ((headB p 0).set 10 ((65535 - S) / 256)).set 11 ((65535 - S) % 256) = headB p (checkI p) := by rw [← HS.out]; exact rcheck p
        rw [e] at this
        exact this
      have hbf : Below (w.heap.size + 1) w0 ((w7.setCell ⟨G, 10, none⟩ (.int .u8 ((65535 - S) / 256))).setCell ⟨G, 11, none⟩ (.int .u8 ((65535 - S) % 256))) := (hb7'.setCell (by exact hG) _).setCell (by exact hG) _
      have hzf : w.heap.size + 1 ≤ ((w7.setCell ⟨G, 10, none⟩ (.int .u8 ((65535 - S) / 256))).setCell ⟨G, 11, none⟩ (.int .u8 ((65535 - S) % 256))).heap.size := by simpa using hz7
      generalize ((w7.setCell ⟨G, 10, none⟩ (.int .u8 ((65535 - S) / 256))).setCell ⟨G, 11, none⟩ (.int .u8 ((65535 - S) % 256))) = w8 at *
      clear hH7 hb7' hz7 c10 c11 f10 f11 HS hbel hsz
      have hof := hHf.owns
      clear hHf
      go_loopw [6, 9] (fun v i wr => ∃ t : Nat, t ≤ p.body.length ∧ i = .int .i64 (t : Int) ∧ Owns wr (w.heap.size + 1) v (headB p (checkI p) ++ p.body.take t) ∧ Below (w.heap.size + 1) w0 wr ∧ w.heap.size + 1 ≤ wr.heap.size) (fun _ i _ => p.body.length - (intOf i).toNat)
      case atStart => exact ⟨0, Nat.zero_le _, rfl, by simpa using hof, hbf, hzf⟩
      case round =>
        obtain ⟨t, ht, rfl, hown, hbel, hsz⟩ := hrel
        have d10 : wr.cell? ⟨w.heap.size, 10, none⟩ = some (.slice ab p.body.length cb) := HC.out wr hbel 10 _ rfl
        by_cases hlt : t < p.body.length
        · rcases hb5 with rfl | hnil
          case inr => rw [hnil] at hlt; simp at hlt
          have hbwr : Below w.heap.size w wr := hbw0.trans (hbel.mono (by omega))
          have hcell : wr.cell? ⟨bb, bo + t, none⟩ = some (.int .u8 (p.body.getD t 0)) := cell_later hbwr (hb6 t hlt)
          have hts : Hid (headB p (checkI p) ++ p.body.take (t + 1) = (headB p (checkI p) ++ p.body.take t) ++ [p.body.getD t 0]) := by show _ = _; rw [take_snoc p.body t hlt, List.append_assoc]
          obtain ⟨v', w1', hrun, ho, hb⟩ := append_one wr (w.heap.size + 1) _ _ (p.body.getD t 0) hown hsz (by rw [List.length_append, List.length_take, head_length]; omega)
          have htb : (t : Int) < (p.body.length : Int) := by omega
          have R1 : Owns w1' (w.heap.size + 1) v' (headB p (checkI p) ++ p.body.take (t + 1)) := by rw [hts.out]; exact ho
          have R2 := hbel.trans hb
          have R3 := Nat.le_trans hsz hb.size
          clear hts ho hb
          generalize p.body.getD t 0 = c at *
          go_wp2_with (at_builtin; refine Lib.wpList_append_run_sl _ rfl _ _ 23 rfl _ _ rfl rfl hrun ?_)
          go_roundw
          case rel => exact ⟨t + 1, by omega, by go_num, R1, R2, R3⟩
          case measure => simp [intOf]; omega
        · have hte : t = p.body.length := by omega
          subst hte
          rw [List.take_length] at hown
          have hbt : Owns wr w.heap.size _ (built p) := hown.low (by omega)
          clear hown hof
          go_wp2
          go_ret2
          exact ⟨_, rfl, hbt, hbw0.trans (hbel.mono (by omega))⟩

set_option maxRecDepth 100000 in
set_option maxHeartbeats 4000000 in
theorem rbuild_ok_tf (p : Dg) (ao ab : Option Addr) (co cb : Nat) (w : World) (k : p.Ok) (f : Fits p) (hO : Bts w (.slice ao p.opts.length co) p.opts) (hB : Bts w (.slice ab p.body.length cb) p.body) (hdf : p.df = true) (hmf : p.mf = false) :
    Calls Try.prog 11 #[ipV p (.slice ao p.opts.length co) (.slice ab p.body.length cb)] w fun e w' =>
      ∃ v, e = .returned (.tuple #[v, .int .i64 0]) ∧ Owns w' w.heap.size v (built p) ∧ Below w.heap.size w w' := by
  have g0 : inBb p.tos 255 = true := decide_eq_true f.tos
  have g1 : inBb p.ttl 255 = true := decide_eq_true f.ttl
  have g2 : inBb p.proto 255 = true := decide_eq_true f.proto
  have g3 : inBb p.id 65535 = true := decide_eq_true f.id
  have g4 : inBb p.off 8191 = true := decide_eq_true f.off
  have HK : Hid (p.Ok) := k
  have HF : Hid (Fits p) := f
  have HFL : Hid (flagsI p = p.off + 16384) := by show _ = _; unfold flagsI flagI; rw [hdf, hmf]; simp; try omega
  have K1 := k.src0
  have K2 := k.src1
  have K3 := k.dst0
  have K4 := k.dst1
  obtain ⟨⟨t0, t1⟩, ⟨l0, l1⟩, ⟨q0, q1⟩, ⟨i0, i1⟩, ⟨o0, o1⟩, o40, o4, hall⟩ := f
  have hlen : p.opts.length + p.body.length ≤ 2028 := by unfold totalI at hall; omega
  have HT : Hid (totalI p = 20 + (p.opts.length : Int) + (p.body.length : Int)) := rfl
  have hor1 := or64 ((20 + (p.opts.length : Int)) / 4) (by omega) (by omega)
  have hoA := orA p.off o0 o1
  have hoB := orB p.off o0 o1
  have hoC := orC p.off o0 o1
  have k5 : ¬ (40 : Int) < (p.opts.length : Int) := by omega
  have k6 : (((p.opts.length : Int) % 4) != 0) = false := by simp; omega
  have k7 : ¬ (2048 : Int) - (20 + (p.opts.length : Int)) < (p.body.length : Int) := by omega
  obtain ⟨oa, oc, ob, oo, hoe, ho2, ho3, ho4, ho5, ho6⟩ := hO
  obtain ⟨ba, bc, bb, bo, hbe, hb2, hb3, hb4, hb5, hb6⟩ := hB
  simp only [Value.slice.injEq, true_and] at hoe hbe
  obtain ⟨rfl, rfl⟩ := hoe
  obtain ⟨rfl, rfl⟩ := hbe
  clear k o4 hall
  go_enter Try.func11, Try.ntmps11
  go_wp2_with (first | (go_at_call 24; refine (in_any _ _ _).mono ?_; rintro e w' ⟨rfl, rfl⟩))
  obtain ⟨w0, hw0⟩ : ∃ w0, w0 = w.alloc (.cells #[.int .i64 p.tos, .int .i64 p.id, .bool true, .bool false, .int .i64 p.off, .int .i64 p.ttl, .int .i64 p.proto, .int .u32 p.src, .int .u32 p.dst, .slice ao p.opts.length co, .slice ab p.body.length cb] 29) := ⟨_, rfl⟩
  rw [← hw0]
  have hsz0 : w0.heap.size = w.heap.size + 1 := by rw [hw0]; simp
  have hbw0 : Below w.heap.size w w0 := by rw [hw0]; exact below_alloc _ _
  have HC : Hid (∀ (w' : World), Below (w.heap.size + 1) w0 w' → ∀ i v, (#[.int .i64 p.tos, .int .i64 p.id, .bool true, .bool false, .int .i64 p.off, .int .i64 p.ttl, .int .i64 p.proto, .int .u32 p.src, .int .u32 p.dst, .slice ao p.opts.length co, .slice ab p.body.length cb] : Array Value)[i]? = some v → w'.cell? ⟨w.heap.size, i, none⟩ = some v) := by
    intro w' hb i v hv
    rw [hb.cell (by show w.heap.size < w.heap.size + 1; omega), hw0, World.cell?_alloc_mark w _ _ (0, 0) i]
    exact hv
  have hO0 : Owns (w0.alloc (.cells #[.int .u8 (64 + (20 + (p.opts.length : Int)) / 4), .int .u8 p.tos] 5)) (w.heap.size + 1) (.slice (some ⟨w.heap.size + 1, 0, none⟩) 2 2) [64 + (20 + (p.opts.length : Int)) / 4, p.tos] := by
    have := owns_lit2 w0 (64 + (20 + (p.opts.length : Int)) / 4) p.tos
    rwa [hsz0] at this
  have hb00 : Below (w.heap.size + 1) w0 (w0.alloc (.cells #[.int .u8 (64 + (20 + (p.opts.length : Int)) / 4), .int .u8 p.tos] 5)) := by rw [← hsz0]; exact below_alloc _ _
  refine (lay_any _ (w.heap.size + 1) _ _ 2 2 _ w0 hO0 (by simp; omega) (by simp) rfl (by decide) hb00).mono ?_
  rintro e w1 ⟨v1, rfl, ho1, hb1, hz1⟩
  have d1 : w1.cell? ⟨w.heap.size, 1, none⟩ = some (.int .i64 p.id) := HC.out w1 hb1 1 _ rfl
  clear hO0 hb00 hw0
  go_wp2_with fail
  refine (lay_any _ (w.heap.size + 1) _ _ 2 2 _ w0 ho1 hz1 (by simp [bytesOfN]) rfl (by decide) hb1).mono ?_
  rintro e w2' ⟨v2, rfl, ho2', hb2', hz2⟩
  clear ho1 hb1 hz1 d1
  go_wp2_with fail
  refine (lay_any _ (w.heap.size + 1) _ _ 2 2 _ w0 ho2' hz2 (by simp [bytesOfN]) rfl (by decide) hb2').mono ?_
  rintro e w3 ⟨v3, rfl, ho3', hb3', hz3⟩
  clear ho2' hb2' hz2
  have d5 : w3.cell? ⟨w.heap.size, 5, none⟩ = some (.int .i64 p.ttl) := HC.out w3 hb3' 5 _ rfl
  have d6 : w3.cell? ⟨w.heap.size, 6, none⟩ = some (.int .i64 p.proto) := HC.out w3 hb3' 6 _ rfl
  obtain ⟨v4, w4, hrun4, ho4', hb4'⟩ := append_bts (w3.alloc (.cells #[.int .u8 p.ttl, .int .u8 p.proto, .int .u8 0, .int .u8 0] 5)) (w.heap.size + 1) v3 _ _ _ (World.ownsRow.alloc ho3' _) (bts_lit4 w3 p.ttl p.proto (by omega) (by omega)) (by simp; omega) (by simp [bytesOfN])
  have hb4'' : Below (w.heap.size + 1) w0 w4 := (hb3'.alloc hz3 _).trans hb4'
  have hz4 : w.heap.size + 1 ≤ w4.heap.size := by have := hb4'.size; simp only [World.size_alloc] at this; omega
  have d7 : w4.cell? ⟨w.heap.size, 7, none⟩ = some (.int .u32 p.src) := HC.out w4 hb4'' 7 _ rfl
  clear ho3' hb3' hb4'
  go_wp2_with (at_builtin; refine Lib.wpList_append_run_sl _ rfl _ _ 23 rfl _ _ rfl rfl hrun4 ?_)
  refine (lay_any _ (w.heap.size + 1) _ _ 4 4 _ w0 ho4' hz4 (by simp [bytesOfN]) rfl (by decide) hb4'').mono ?_
  rintro e w5 ⟨v5, rfl, ho5', hb5', hz5⟩
  have d8 : w5.cell? ⟨w.heap.size, 8, none⟩ = some (.int .u32 p.dst) := HC.out w5 hb5' 8 _ rfl
  clear ho4' hb4'' hz4 d7 d5 d6 hrun4 hz3
  go_wp2_with fail
  refine (lay_any _ (w.heap.size + 1) _ _ 4 4 _ w0 ho5' hz5 (by simp [bytesOfN]) rfl (by decide) hb5').mono ?_
  rintro e w6 ⟨v6, rfl, ho6', hb6', hz6⟩
  clear ho5' hb5' hz5 d8
  have hr : Owns w6 (w.heap.size + 1) v6 (rhead p) := by
    unfold rhead
    rw [HT.out, HFL.out]
    have e256a : p.src / 16777216 % 256 = p.src / 16777216 := by omega
    have e256b : p.dst / 16777216 % 256 = p.dst / 16777216 := by omega
    simpa [bytesOfN, e256a, e256b] using ho6'
  clear ho6'
  go_wp2
  go_loopw [6, 7] (fun v i wr => ∃ t : Nat, t ≤ p.opts.length ∧ i = .int .i64 (t : Int) ∧ Owns wr (w.heap.size + 1) v (rhead p ++ p.opts.take t) ∧ Below (w.heap.size + 1) w0 wr ∧ w.heap.size + 1 ≤ wr.heap.size) (fun _ i _ => p.opts.length - (intOf i).toNat)
  case atStart => exact ⟨0, Nat.zero_le _, rfl, by simpa using hr, hb6', hz6⟩
  case round =>
    obtain ⟨t, ht, rfl, hown, hbel, hsz⟩ := hrel
    have d9 : wr.cell? ⟨w.heap.size, 9, none⟩ = some (.slice ao p.opts.length co) := HC.out wr hbel 9 _ rfl
    by_cases hlt : t < p.opts.length
    · rcases ho5 with rfl | hnil
      case inr => rw [hnil] at hlt; simp at hlt
      have hbwr : Below w.heap.size w wr := hbw0.trans (hbel.mono (by omega))
      have hcell : wr.cell? ⟨ob, oo + t, none⟩ = some (.int .u8 (p.opts.getD t 0)) := cell_later hbwr (ho6 t hlt)
      have hts : Hid (rhead p ++ p.opts.take (t + 1) = (rhead p ++ p.opts.take t) ++ [p.opts.getD t 0]) := by show _ = _; rw [take_snoc p.opts t hlt, List.append_assoc]
      obtain ⟨v', w1', hrun, ho, hb⟩ := append_one wr (w.heap.size + 1) _ _ (p.opts.getD t 0) hown hsz (by rw [List.length_append, List.length_take]; simp [rhead]; omega)
      have htb : (t : Int) < (p.opts.length : Int) := by omega
      have R1 : Owns w1' (w.heap.size + 1) v' (rhead p ++ p.opts.take (t + 1)) := by rw [hts.out]; exact ho
      have R2 := hbel.trans hb
      have R3 := Nat.le_trans hsz hb.size
      clear hts ho hb
      generalize p.opts.getD t 0 = c at *
      go_wp2_with (at_builtin; refine Lib.wpList_append_run_sl _ rfl _ _ 23 rfl _ _ rfl rfl hrun ?_)
      go_roundw
      case rel => exact ⟨t + 1, by omega, by go_num, R1, R2, R3⟩
      case measure => simp [intOf]; omega
    · have hte : t = p.opts.length := by omega
      subst hte
      rw [List.take_length, rhead_eq p HK.out HF.out] at hown
      obtain ⟨G, cg, rfl, hH⟩ := holds8_of_owns hown (head_length p 0) (by omega)
      clear hr hb6' hz6
      go_wp2_with fail
      refine (one_any _ (headB p 0) _ (hown.bts (head_bytes p 0 HK.out.opts)) (by rw [head_length]; omega)).mono ?_
      rintro e w7 ⟨rfl, hb7⟩
      have hH7 := hH.later hb7
      have hb7' : Below (w.heap.size + 1) w0 w7 := hbel.trans (hb7.mono hsz)
      have hz7 : w.heap.size + 1 ≤ w7.heap.size := Nat.le_trans hsz hb7.size
      have hG := hH7.base
      have c10 := hH7.cell 10 (by omega)
      have c11 := hH7.cell 11 (by omega)
      have f10 := hH7.2.frozenAt 10
      have f11 := hH7.2.frozenAt 11
      have i10 : (10 : Int) < 20 + (p.opts.length : Int) := by omega
      have i11 : (11 : Int) < 20 + (p.opts.length : Int) := by omega
      have HS : Hid (checkI p = 65535 - fold16 (ws (headB p 0))) := by show _ = _; unfold checkI; rw [turn_fold]
      have hS := fold16_bd (ws (headB p 0))
      generalize fold16 (ws (headB p 0)) = S at *
      clear hown hH hb7 d9
      obtain ⟨S0, S1⟩ := hS
      have hS2 : 0 ≤ 65535 - S := by omega
      go_wp2
      have hHf : Holds8 ((w7.setCell ⟨G, 10, none⟩ (.int .u8 ((65535 - S) / 256))).setCell ⟨G, 11, none⟩ (.int .u8 ((65535 - S) % 256))) (w.heap.size + 1) G (20 + p.opts.length) cg (headB p (checkI p)) := by
        have := (hH7.store 10 ((65535 - S) / 256)).store 11 ((65535 - S) % 256)
        have e : ((headB p 0).set 10 ((65535 - S) / 256)).set 11 ((65535 - S) % 256) = headB p (checkI p) := by rw [← HS.out]; exact rcheck p
        rw [e] at this
        exact this
      have hbf : Below (w.heap.size + 1) w0 ((w7.setCell ⟨G, 10, none⟩ (.int .u8 ((65535 - S) / 256))).setCell ⟨G, 11, none⟩ (.int .u8 ((65535 - S) % 256))) := (hb7'.setCell (by exact hG) _).setCell (by exact hG) _
      have hzf : w.heap.size + 1 ≤ ((w7.setCell ⟨G, 10, none⟩ (.int .u8 ((65535 - S) / 256))).setCell ⟨G, 11, none⟩ (.int .u8 ((65535 - S) % 256))).heap.size := by simpa using hz7
      generalize ((w7.setCell ⟨G, 10, none⟩ (.int .u8 ((65535 - S) / 256))).setCell ⟨G, 11, none⟩ (.int .u8 ((65535 - S) % 256))) = w8 at *
      clear hH7 hb7' hz7 c10 c11 f10 f11 HS hbel hsz
      have hof := hHf.owns
      clear hHf
      go_loopw [6, 9] (fun v i wr => ∃ t : Nat, t ≤ p.body.length ∧ i = .int .i64 (t : Int) ∧ Owns wr (w.heap.size + 1) v (headB p (checkI p) ++ p.body.take t) ∧ Below (w.heap.size + 1) w0 wr ∧ w.heap.size + 1 ≤ wr.heap.size) (fun _ i _ => p.body.length - (intOf i).toNat)
      case atStart => exact ⟨0, Nat.zero_le _, rfl, by simpa using hof, hbf, hzf⟩
      case round =>
        obtain ⟨t, ht, rfl, hown, hbel, hsz⟩ := hrel
        have d10 : wr.cell? ⟨w.heap.size, 10, none⟩ = some (.slice ab p.body.length cb) := HC.out wr hbel 10 _ rfl
        by_cases hlt : t < p.body.length
        · rcases hb5 with rfl | hnil
          case inr => rw [hnil] at hlt; simp at hlt
          have hbwr : Below w.heap.size w wr := hbw0.trans (hbel.mono (by omega))
          have hcell : wr.cell? ⟨bb, bo + t, none⟩ = some (.int .u8 (p.body.getD t 0)) := cell_later hbwr (hb6 t hlt)
          have hts : Hid (headB p (checkI p) ++ p.body.take (t + 1) = (headB p (checkI p) ++ p.body.take t) ++ [p.body.getD t 0]) := by show _ = _; rw [take_snoc p.body t hlt, List.append_assoc]
          obtain ⟨v', w1', hrun, ho, hb⟩ := append_one wr (w.heap.size + 1) _ _ (p.body.getD t 0) hown hsz (by rw [List.length_append, List.length_take, head_length]; omega)
          have htb : (t : Int) < (p.body.length : Int) := by omega
          have R1 : Owns w1' (w.heap.size + 1) v' (headB p (checkI p) ++ p.body.take (t + 1)) := by rw [hts.out]; exact ho
          have R2 := hbel.trans hb
          have R3 := Nat.le_trans hsz hb.size
          clear hts ho hb
          generalize p.body.getD t 0 = c at *
          go_wp2_with (at_builtin; refine Lib.wpList_append_run_sl _ rfl _ _ 23 rfl _ _ rfl rfl hrun ?_)
          go_roundw
          case rel => exact ⟨t + 1, by omega, by go_num, R1, R2, R3⟩
          case measure => simp [intOf]; omega
        · have hte : t = p.body.length := by omega
          subst hte
          rw [List.take_length] at hown
          have hbt : Owns wr w.heap.size _ (built p) := hown.low (by omega)
          clear hown hof
          go_wp2
          go_ret2
          exact ⟨_, rfl, hbt, hbw0.trans (hbel.mono (by omega))⟩

set_option maxRecDepth 100000 in
set_option maxHeartbeats 4000000 in
theorem rbuild_ok_ft (p : Dg) (ao ab : Option Addr) (co cb : Nat) (w : World) (k : p.Ok) (f : Fits p) (hO : Bts w (.slice ao p.opts.length co) p.opts) (hB : Bts w (.slice ab p.body.length cb) p.body) (hdf : p.df = false) (hmf : p.mf = true) :
    Calls Try.prog 11 #[ipV p (.slice ao p.opts.length co) (.slice ab p.body.length cb)] w fun e w' =>
      ∃ v, e = .returned (.tuple #[v, .int .i64 0]) ∧ Owns w' w.heap.size v (built p) ∧ Below w.heap.size w w' := by
  have g0 : inBb p.tos 255 = true := decide_eq_true f.tos
  have g1 : inBb p.ttl 255 = true := decide_eq_true f.ttl
  have g2 : inBb p.proto 255 = true := decide_eq_true f.proto
  have g3 : inBb p.id 65535 = true := decide_eq_true f.id
  have g4 : inBb p.off 8191 = true := decide_eq_true f.off
  have HK : Hid (p.Ok) := k
  have HF : Hid (Fits p) := f
  have HFL : Hid (flagsI p = p.off + 8192) := by show _ = _; unfold flagsI flagI; rw [hdf, hmf]; simp; try omega
  have K1 := k.src0
  have K2 := k.src1
  have K3 := k.dst0
  have K4 := k.dst1
  obtain ⟨⟨t0, t1⟩, ⟨l0, l1⟩, ⟨q0, q1⟩, ⟨i0, i1⟩, ⟨o0, o1⟩, o40, o4, hall⟩ := f
  have hlen : p.opts.length + p.body.length ≤ 2028 := by unfold totalI at hall; omega
  have HT : Hid (totalI p = 20 + (p.opts.length : Int) + (p.body.length : Int)) := rfl
  have hor1 := or64 ((20 + (p.opts.length : Int)) / 4) (by omega) (by omega)
  have hoA := orA p.off o0 o1
  have hoB := orB p.off o0 o1
  have hoC := orC p.off o0 o1
  have k5 : ¬ (40 : Int) < (p.opts.length : Int) := by omega
  have k6 : (((p.opts.length : Int) % 4) != 0) = false := by simp; omega
  have k7 : ¬ (2048 : Int) - (20 + (p.opts.length : Int)) < (p.body.length : Int) := by omega
  obtain ⟨oa, oc, ob, oo, hoe, ho2, ho3, ho4, ho5, ho6⟩ := hO
  obtain ⟨ba, bc, bb, bo, hbe, hb2, hb3, hb4, hb5, hb6⟩ := hB
  simp only [Value.slice.injEq, true_and] at hoe hbe
  obtain ⟨rfl, rfl⟩ := hoe
  obtain ⟨rfl, rfl⟩ := hbe
  clear k o4 hall
  go_enter Try.func11, Try.ntmps11
  go_wp2_with (first | (go_at_call 24; refine (in_any _ _ _).mono ?_; rintro e w' ⟨rfl, rfl⟩))
  obtain ⟨w0, hw0⟩ : ∃ w0, w0 = w.alloc (.cells #[.int .i64 p.tos, .int .i64 p.id, .bool false, .bool true, .int .i64 p.off, .int .i64 p.ttl, .int .i64 p.proto, .int .u32 p.src, .int .u32 p.dst, .slice ao p.opts.length co, .slice ab p.body.length cb] 29) := ⟨_, rfl⟩
  rw [← hw0]
  have hsz0 : w0.heap.size = w.heap.size + 1 := by rw [hw0]; simp
  have hbw0 : Below w.heap.size w w0 := by rw [hw0]; exact below_alloc _ _
  have HC : Hid (∀ (w' : World), Below (w.heap.size + 1) w0 w' → ∀ i v, (#[.int .i64 p.tos, .int .i64 p.id, .bool false, .bool true, .int .i64 p.off, .int .i64 p.ttl, .int .i64 p.proto, .int .u32 p.src, .int .u32 p.dst, .slice ao p.opts.length co, .slice ab p.body.length cb] : Array Value)[i]? = some v → w'.cell? ⟨w.heap.size, i, none⟩ = some v) := by
    intro w' hb i v hv
    rw [hb.cell (by show w.heap.size < w.heap.size + 1; omega), hw0, World.cell?_alloc_mark w _ _ (0, 0) i]
    exact hv
  have hO0 : Owns (w0.alloc (.cells #[.int .u8 (64 + (20 + (p.opts.length : Int)) / 4), .int .u8 p.tos] 5)) (w.heap.size + 1) (.slice (some ⟨w.heap.size + 1, 0, none⟩) 2 2) [64 + (20 + (p.opts.length : Int)) / 4, p.tos] := by
    have := owns_lit2 w0 (64 + (20 + (p.opts.length : Int)) / 4) p.tos
    rwa [hsz0] at this
  have hb00 : Below (w.heap.size + 1) w0 (w0.alloc (.cells #[.int .u8 (64 + (20 + (p.opts.length : Int)) / 4), .int .u8 p.tos] 5)) := by rw [← hsz0]; exact below_alloc _ _
  refine (lay_any _ (w.heap.size + 1) _ _ 2 2 _ w0 hO0 (by simp; omega) (by simp) rfl (by decide) hb00).mono ?_
  rintro e w1 ⟨v1, rfl, ho1, hb1, hz1⟩
  have d1 : w1.cell? ⟨w.heap.size, 1, none⟩ = some (.int .i64 p.id) := HC.out w1 hb1 1 _ rfl
  clear hO0 hb00 hw0
  go_wp2_with fail
  refine (lay_any _ (w.heap.size + 1) _ _ 2 2 _ w0 ho1 hz1 (by simp [bytesOfN]) rfl (by decide) hb1).mono ?_
  rintro e w2' ⟨v2, rfl, ho2', hb2', hz2⟩
  clear ho1 hb1 hz1 d1
  go_wp2_with fail
  refine (lay_any _ (w.heap.size + 1) _ _ 2 2 _ w0 ho2' hz2 (by simp [bytesOfN]) rfl (by decide) hb2').mono ?_
  rintro e w3 ⟨v3, rfl, ho3', hb3', hz3⟩
  clear ho2' hb2' hz2
  have d5 : w3.cell? ⟨w.heap.size, 5, none⟩ = some (.int .i64 p.ttl) := HC.out w3 hb3' 5 _ rfl
  have d6 : w3.cell? ⟨w.heap.size, 6, none⟩ = some (.int .i64 p.proto) := HC.out w3 hb3' 6 _ rfl
  obtain ⟨v4, w4, hrun4, ho4', hb4'⟩ := append_bts (w3.alloc (.cells #[.int .u8 p.ttl, .int .u8 p.proto, .int .u8 0, .int .u8 0] 5)) (w.heap.size + 1) v3 _ _ _ (World.ownsRow.alloc ho3' _) (bts_lit4 w3 p.ttl p.proto (by omega) (by omega)) (by simp; omega) (by simp [bytesOfN])
  have hb4'' : Below (w.heap.size + 1) w0 w4 := (hb3'.alloc hz3 _).trans hb4'
  have hz4 : w.heap.size + 1 ≤ w4.heap.size := by have := hb4'.size; simp only [World.size_alloc] at this; omega
  have d7 : w4.cell? ⟨w.heap.size, 7, none⟩ = some (.int .u32 p.src) := HC.out w4 hb4'' 7 _ rfl
  clear ho3' hb3' hb4'
  go_wp2_with (at_builtin; refine Lib.wpList_append_run_sl _ rfl _ _ 23 rfl _ _ rfl rfl hrun4 ?_)
  refine (lay_any _ (w.heap.size + 1) _ _ 4 4 _ w0 ho4' hz4 (by simp [bytesOfN]) rfl (by decide) hb4'').mono ?_
  rintro e w5 ⟨v5, rfl, ho5', hb5', hz5⟩
  have d8 : w5.cell? ⟨w.heap.size, 8, none⟩ = some (.int .u32 p.dst) := HC.out w5 hb5' 8 _ rfl
  clear ho4' hb4'' hz4 d7 d5 d6 hrun4 hz3
  go_wp2_with fail
  refine (lay_any _ (w.heap.size + 1) _ _ 4 4 _ w0 ho5' hz5 (by simp [bytesOfN]) rfl (by decide) hb5').mono ?_
  rintro e w6 ⟨v6, rfl, ho6', hb6', hz6⟩
  clear ho5' hb5' hz5 d8
  have hr : Owns w6 (w.heap.size + 1) v6 (rhead p) := by
    unfold rhead
    rw [HT.out, HFL.out]
    have e256a : p.src / 16777216 % 256 = p.src / 16777216 := by omega
    have e256b : p.dst / 16777216 % 256 = p.dst / 16777216 := by omega
    simpa [bytesOfN, e256a, e256b] using ho6'
  clear ho6'
  go_wp2
  go_loopw [6, 7] (fun v i wr => ∃ t : Nat, t ≤ p.opts.length ∧ i = .int .i64 (t : Int) ∧ Owns wr (w.heap.size + 1) v (rhead p ++ p.opts.take t) ∧ Below (w.heap.size + 1) w0 wr ∧ w.heap.size + 1 ≤ wr.heap.size) (fun _ i _ => p.opts.length - (intOf i).toNat)
  case atStart => exact ⟨0, Nat.zero_le _, rfl, by simpa using hr, hb6', hz6⟩
  case round =>
    obtain ⟨t, ht, rfl, hown, hbel, hsz⟩ := hrel
    have d9 : wr.cell? ⟨w.heap.size, 9, none⟩ = some (.slice ao p.opts.length co) := HC.out wr hbel 9 _ rfl
    by_cases hlt : t < p.opts.length
    · rcases ho5 with rfl | hnil
      case inr => rw [hnil] at hlt; simp at hlt
      have hbwr : Below w.heap.size w wr := hbw0.trans (hbel.mono (by omega))
      have hcell : wr.cell? ⟨ob, oo + t, none⟩ = some (.int .u8 (p.opts.getD t 0)) := cell_later hbwr (ho6 t hlt)
      have hts : Hid (rhead p ++ p.opts.take (t + 1) = (rhead p ++ p.opts.take t) ++ [p.opts.getD t 0]) := by show _ = _; rw [take_snoc p.opts t hlt, List.append_assoc]
      obtain ⟨v', w1', hrun, ho, hb⟩ := append_one wr (w.heap.size + 1) _ _ (p.opts.getD t 0) hown hsz (by rw [List.length_append, List.length_take]; simp [rhead]; omega)
      have htb : (t : Int) < (p.opts.length : Int) := by omega
      have R1 : Owns w1' (w.heap.size + 1) v' (rhead p ++ p.opts.take (t + 1)) := by rw [hts.out]; exact ho
      have R2 := hbel.trans hb
      have R3 := Nat.le_trans hsz hb.size
      clear hts ho hb
      generalize p.opts.getD t 0 = c at *
      go_wp2_with (at_builtin; refine Lib.wpList_append_run_sl _ rfl _ _ 23 rfl _ _ rfl rfl hrun ?_)
      go_roundw
      case rel => exact ⟨t + 1, by omega, by go_num, R1, R2, R3⟩
      case measure => simp [intOf]; omega
    · have hte : t = p.opts.length := by omega
      subst hte
      rw [List.take_length, rhead_eq p HK.out HF.out] at hown
      obtain ⟨G, cg, rfl, hH⟩ := holds8_of_owns hown (head_length p 0) (by omega)
      clear hr hb6' hz6
      go_wp2_with fail
      refine (one_any _ (headB p 0) _ (hown.bts (head_bytes p 0 HK.out.opts)) (by rw [head_length]; omega)).mono ?_
      rintro e w7 ⟨rfl, hb7⟩
      have hH7 := hH.later hb7
      have hb7' : Below (w.heap.size + 1) w0 w7 := hbel.trans (hb7.mono hsz)
      have hz7 : w.heap.size + 1 ≤ w7.heap.size := Nat.le_trans hsz hb7.size
      have hG := hH7.base
      have c10 := hH7.cell 10 (by omega)
      have c11 := hH7.cell 11 (by omega)
      have f10 := hH7.2.frozenAt 10
      have f11 := hH7.2.frozenAt 11
      have i10 : (10 : Int) < 20 + (p.opts.length : Int) := by omega
      have i11 : (11 : Int) < 20 + (p.opts.length : Int) := by omega
      have HS : Hid (checkI p = 65535 - fold16 (ws (headB p 0))) := by show _ = _; unfold checkI; rw [turn_fold]
      have hS := fold16_bd (ws (headB p 0))
      generalize fold16 (ws (headB p 0)) = S at *
      clear hown hH hb7 d9
      obtain ⟨S0, S1⟩ := hS
      have hS2 : 0 ≤ 65535 - S := by omega
      go_wp2
      have hHf : Holds8 ((w7.setCell ⟨G, 10, none⟩ (.int .u8 ((65535 - S) / 256))).setCell ⟨G, 11, none⟩ (.int .u8 ((65535 - S) % 256))) (w.heap.size + 1) G (20 + p.opts.length) cg (headB p (checkI p)) := by
        have := (hH7.store 10 ((65535 - S) / 256)).store 11 ((65535 - S) % 256)
        have e : ((headB p 0).set 10 ((65535 - S) / 256)).set 11 ((65535 - S) % 256) = headB p (checkI p) := by rw [← HS.out]; exact rcheck p
        rw [e] at this
        exact this
      have hbf : Below (w.heap.size + 1) w0 ((w7.setCell ⟨G, 10, none⟩ (.int .u8 ((65535 - S) / 256))).setCell ⟨G, 11, none⟩ (.int .u8 ((65535 - S) % 256))) := (hb7'.setCell (by exact hG) _).setCell (by exact hG) _
      have hzf : w.heap.size + 1 ≤ ((w7.setCell ⟨G, 10, none⟩ (.int .u8 ((65535 - S) / 256))).setCell ⟨G, 11, none⟩ (.int .u8 ((65535 - S) % 256))).heap.size := by simpa using hz7
      generalize ((w7.setCell ⟨G, 10, none⟩ (.int .u8 ((65535 - S) / 256))).setCell ⟨G, 11, none⟩ (.int .u8 ((65535 - S) % 256))) = w8 at *
      clear hH7 hb7' hz7 c10 c11 f10 f11 HS hbel hsz
      have hof := hHf.owns
      clear hHf
      go_loopw [6, 9] (fun v i wr => ∃ t : Nat, t ≤ p.body.length ∧ i = .int .i64 (t : Int) ∧ Owns wr (w.heap.size + 1) v (headB p (checkI p) ++ p.body.take t) ∧ Below (w.heap.size + 1) w0 wr ∧ w.heap.size + 1 ≤ wr.heap.size) (fun _ i _ => p.body.length - (intOf i).toNat)
      case atStart => exact ⟨0, Nat.zero_le _, rfl, by simpa using hof, hbf, hzf⟩
      case round =>
        obtain ⟨t, ht, rfl, hown, hbel, hsz⟩ := hrel
        have d10 : wr.cell? ⟨w.heap.size, 10, none⟩ = some (.slice ab p.body.length cb) := HC.out wr hbel 10 _ rfl
        by_cases hlt : t < p.body.length
        · rcases hb5 with rfl | hnil
          case inr => rw [hnil] at hlt; simp at hlt
          have hbwr : Below w.heap.size w wr := hbw0.trans (hbel.mono (by omega))
          have hcell : wr.cell? ⟨bb, bo + t, none⟩ = some (.int .u8 (p.body.getD t 0)) := cell_later hbwr (hb6 t hlt)
          have hts : Hid (headB p (checkI p) ++ p.body.take (t + 1) = (headB p (checkI p) ++ p.body.take t) ++ [p.body.getD t 0]) := by show _ = _; rw [take_snoc p.body t hlt, List.append_assoc]
          obtain ⟨v', w1', hrun, ho, hb⟩ := append_one wr (w.heap.size + 1) _ _ (p.body.getD t 0) hown hsz (by rw [List.length_append, List.length_take, head_length]; omega)
          have htb : (t : Int) < (p.body.length : Int) := by omega
          have R1 : Owns w1' (w.heap.size + 1) v' (headB p (checkI p) ++ p.body.take (t + 1)) := by rw [hts.out]; exact ho
          have R2 := hbel.trans hb
          have R3 := Nat.le_trans hsz hb.size
          clear hts ho hb
          generalize p.body.getD t 0 = c at *
          go_wp2_with (at_builtin; refine Lib.wpList_append_run_sl _ rfl _ _ 23 rfl _ _ rfl rfl hrun ?_)
          go_roundw
          case rel => exact ⟨t + 1, by omega, by go_num, R1, R2, R3⟩
          case measure => simp [intOf]; omega
        · have hte : t = p.body.length := by omega
          subst hte
          rw [List.take_length] at hown
          have hbt : Owns wr w.heap.size _ (built p) := hown.low (by omega)
          clear hown hof
          go_wp2
          go_ret2
          exact ⟨_, rfl, hbt, hbw0.trans (hbel.mono (by omega))⟩

theorem rbuild_own (p : Dg) (ao ab : Option Addr) (co cb : Nat) (w : World) (k : p.Ok) (f : Fits p) (hO : Bts w (.slice ao p.opts.length co) p.opts) (hB : Bts w (.slice ab p.body.length cb) p.body) :
    Calls Try.prog 11 #[ipV p (.slice ao p.opts.length co) (.slice ab p.body.length cb)] w fun e w' =>
      ∃ v, e = .returned (.tuple #[v, .int .i64 0]) ∧ Owns w' w.heap.size v (built p) ∧ Below w.heap.size w w' := by
  cases hdf : p.df <;> cases hmf : p.mf
  · exact rbuild_ok_ff p ao ab co cb w k f hO hB hdf hmf
  · exact rbuild_ok_ft p ao ab co cb w k f hO hB hdf hmf
  · exact rbuild_ok_tf p ao ab co cb w k f hO hB hdf hmf
  · exact rbuild_ok_tt p ao ab co cb w k f hO hB hdf hmf

theorem rbuild_ok (p : Dg) (ao ab : Option Addr) (co cb : Nat) (w : World) (k : p.Ok) (f : Fits p) (hO : Bts w (.slice ao p.opts.length co) p.opts) (hB : Bts w (.slice ab p.body.length cb) p.body) :
    Calls Try.prog 11 #[ipV p (.slice ao p.opts.length co) (.slice ab p.body.length cb)] w fun e w' =>
      ∃ v, e = .returned (.tuple #[v, .int .i64 0]) ∧ Bts w' v (built p) ∧ Below w.heap.size w w' := by
  refine (rbuild_own p ao ab co cb w k f hO hB).mono ?_
  rintro e w' ⟨v, rfl, ho, hb⟩
  exact ⟨v, rfl, ho.bts (built_bytes p k), hb⟩
end Go.Proofs.Ytdejjokgchbgnaa
