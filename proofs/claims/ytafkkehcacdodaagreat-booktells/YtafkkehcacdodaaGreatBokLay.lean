/- lay: entries are appended one behind the other, the first error ends it. -/
import Derived.Test.YtafkkehcacdodaaGreatBokState
import Derived.Test.YtafkkehcacdodaaGreatEntEnc
set_option maxRecDepth 100000
namespace Go.Proofs.YtafkkehcacdodaaGreat
open Go.RowKit

/-- How a step ends that answers x. -/
def stepEnd (x : Int) : Ending := if x = 0 then .returned (.tuple #[]) else .panicked (chainOf x)

theorem stepEnd_zero : stepEnd 0 = .returned (.tuple #[]) := rfl

theorem stepEnd_no {x : Int} (h : x ≠ 0) : stepEnd x = .panicked (chainOf x) := if_neg h

/-- So far, when some entries stand. -/
structure Laid (w : World) (tag : Nat → Nat) (base o D B : Nat) (b : Bm) (l : List En) (q k : Nat) (wr : World) (s : St) (t : Sd) (tag' : Nat → Nat) : Prop where
  step : StepR tag tag' base o (o + 1) w wr
  bk : BK wr tag' base o D B ⟨s, t, b.L, b.D⟩
  nb : Nb s t (q + k)
  eE : layE b.s b.t l = layE s t (l.drop k)
  eS : layS b.s b.t l = layS s t (l.drop k)
  eT : layT b.s b.t l = layT s t (l.drop k)
  outs : s.outs.length ≤ b.s.outs.length
  recs : t.recs.length ≤ b.t.recs.length + k

set_option maxHeartbeats 4000000 in
theorem blay_ok (w : World) (tag : Nat → Nat) (base o D B : Nat) (ho : 1 ≤ o) (b : Bm) (h : BK w tag base o D B b) (hbase : base ≤ w.heap.size) (lv : Value) (l : List En) (hl : Far w tag o (o + 1) lv l) (hf : Fine l) (q : Nat) (hn : Nb b.s b.t q)
    (hq : q + l.length ≤ 900000) (hout : b.s.outs.length ≤ 900000) (hrec : b.t.recs.length + l.length ≤ 900000) :
    Calls Tryz.prog 50 #[.pointer (some ⟨B, 0, none⟩), lv] w fun e w' => ∃ tag', StepR tag tag' base o (o + 1) w w' ∧ BK w' tag' base o D B ⟨layS b.s b.t l, layT b.s b.t l, b.L, b.D⟩ ∧ e = stepEnd (layE b.s b.t l) := by
  obtain ⟨a, c, rfl, hc1, hc2⟩ := win_form hl.win
  have HF : Hid (Far w tag o (o + 1) (.slice a l.length c) l) := hl
  have HFi : Hid (Fine l) := hf
  have HL0 : Hid (Laid w tag base o D B b l q 0 w b.s b.t tag) := ⟨StepR.refl _ _ _ _ _, h, hn, rfl, rfl, rfl, Nat.le_refl _, Nat.le_refl _⟩
  unfold maxLen at hc2
  clear h hl hf hn
  go_enter Tryz.func50, Tryz.ntmps50
  go_wp2
  go_loopg [10] l.length (fun gk i wr => ∃ (k : Nat) (s : St) (t : Sd) (tag' : Nat → Nat), k + gk = l.length ∧ i = .int .i64 k ∧ Laid w tag base o D B b l q k wr s t tag')
  case atStart => exact ⟨0, _, _, _, by omega, rfl, HL0.out⟩
  case round =>
    obtain ⟨k, s, t, tag', hk, rfl, hL⟩ := hrel
    by_cases hlt : k < l.length
    case neg =>
      have hge : ¬ (k : Int) < (l.length : Int) := by omega
      have hd : l.drop k = [] := List.drop_of_length_le (by omega)
      have e1 := hL.eE
      have e2 := hL.eS
      have e3 := hL.eT
      rw [hd] at e1 e2 e3
      have HR : Hid (∃ tag', StepR tag tag' base o (o + 1) w wr ∧ BK wr tag' base o D B ⟨layS b.s b.t l, layT b.s b.t l, b.L, b.D⟩ ∧ stepEnd 0 = stepEnd (layE b.s b.t l)) := ⟨tag', hL.step, by rw [e2, e3]; exact hL.bk, by rw [e1]; rfl⟩
      clear hL e1 e2 e3 hd
      go_wp2
      go_end0
      exact HR.out
    have hltI : (k : Int) < (l.length : Int) := by omega
    obtain ⟨e, he⟩ : ∃ e, l[k]? = some e := ⟨_, List.getElem?_eq_getElem hlt⟩
    have hfe := HFi.out e (List.mem_of_getElem? he)
    have hFr := HF.out.step hL.step (Nat.le_refl _) (Nat.le_refl _)
    obtain ⟨EB, EO, hEns, _⟩ := win_ens hFr.win
    obtain ⟨a', c', hv, _, _, ha, hEn⟩ := hEns
    cases hv
    obtain rfl : a = some ⟨EB, EO, none⟩ := by
      rcases ha with g | g
      · exact g
      · subst g; simp at hlt
    obtain ⟨c0, c1, c2, c3, c4⟩ := hEn k e he
    have hdr : l.drop k = e :: l.drop (k + 1) := by
      rw [List.drop_eq_getElem_cons hlt]
      congr 1
      rw [List.getElem?_eq_getElem hlt] at he
      exact Option.some.inj he
    have HLd : Hid (Laid w tag base o D B b l q k wr s t tag') := hL
    have hbr : base ≤ wr.heap.size := Nat.le_trans hbase hL.step.below.size
    have hb1 := below_alloc wr (.cells (enC e) 73)
    have HE := encode_ok e (wr.alloc (.cells (enC e) 73)) hfe.1 hfe.2
    have hbd : e.May ∧ e.Ok := hfe
    have HFE : Hid (frameE (bytesE e) = 0) := frameE_bytes hfe.1
    clear hEn hFr he hL hfe ha
    have HC : Hid (l.drop k = e :: l.drop (k + 1)) := hdr
    have HME : Hid (e.May ∧ e.Ok) := hbd
    have HBY : Hid (isBytes (bytesE e)) := bytesE_bytes e
    clear hdr hbd
    obtain ⟨bs, hbs⟩ : ∃ bs, bs = bytesE e := ⟨_, rfl⟩
    have HBS : Hid (bs = bytesE e) := hbs
    rw [← hbs] at HE HBY HFE
    clear hbs
    have HCe : Hid (layE s t (l.drop k) = if appE s t bs ≠ 0 then appE s t bs else layE (appS s t bs) (appT s t bs) (l.drop (k + 1))) := by show _ = _; rw [HC.out, HBS.out]; rfl
    have HCs : Hid (layS s t (l.drop k) = if appE s t bs ≠ 0 then appS s t bs else layS (appS s t bs) (appT s t bs) (l.drop (k + 1))) := by show _ = _; rw [HC.out, HBS.out]; rfl
    have HCt : Hid (layT s t (l.drop k) = if appE s t bs ≠ 0 then appT s t bs else layT (appS s t bs) (appT s t bs) (l.drop (k + 1))) := by show _ = _; rw [HC.out, HBS.out]; rfl
    clear HC HBS HME
    obtain ⟨k0, k1, k2, k3, k4⟩ := e
    simp only at c0 c1 c2 c3 c4
    have hneed := need_no
    go_wp2_with fail
    refine (by exact HE : Calls _ _ _ _ _).mono ?_
    rintro e w2 ⟨v, rfl, hO, hB2⟩
    have hB02 : Below wr.heap.size wr w2 := hb1.trans (hB2.mono hb1.size)
    obtain ⟨p, q', kv, dv, hD, hP, hPo, hPb⟩ := HLd.out.bk.new hB02
    have hHd : Held w2 (clip tag' wr.heap.size) v bs := (hO.low hb1.size).held HBY.out
    have g0 := hPb.s0
    have hbw2 : base ≤ w2.heap.size := Nat.le_trans hbr hB02.size
    have hn1 := HLd.out.nb
    have hops := hn1.ops
    have hsin := hn1.sin
    have hou1 := HLd.out.outs
    have hre1 := HLd.out.recs
    have HA := append_ok8 w2 (clip tag' wr.heap.size) base o (o + 1) (by omega) ho (by omega) s p hP t q' (by rw [hD]; exact hPo) hbw2 hn1.tk v bs hHd HFE.out (by omega) (by omega) (by omega) (by omega)
    have HP2 : Hid (StepR tag' (clip tag' wr.heap.size) base o (o + 1) wr w2 ∧ PB w2 (clip tag' wr.heap.size) base (o + 2) q'.S b.L b.D B kv dv) := ⟨stepR_clip tag' base o (o + 1) hbr hB02, hPb⟩
    obtain ⟨va, vc, hvv, _⟩ := bts_src hHd.1
    subst hvv
    clear HE hO hB2 hB02 hP hPo hPb hHd hb1 c0 c1 c2 c3 c4 hn1
    go_wp2_with fail
    refine (by exact hneed _ : Calls _ _ _ _ _).mono ?_
    rintro e w2' ⟨rfl, hx⟩
    rw [hx]
    clear hx
    go_wp2_with fail
    refine HA.mono ?_
    rintro e w3 ⟨rfl, p3, q3, tag3, hD3, hS3, hP3, hQ3, hSt3⟩
    have hBK3 : BK w3 tag3 base o D B ⟨appS s t bs, appT s t bs, b.L, b.D⟩ := ⟨p3, q3, kv, dv, by rw [hD3, hD], hP3, by rw [← hD]; exact hQ3, by rw [hS3]; exact HP2.out.2.otherR (hSt3.range (Nat.le_refl o) (Nat.le_succ o) (Nat.le_succ o) (Nat.le_refl _)) (by omega)⟩
    have hSt03 : StepR tag tag3 base o (o + 1) w w3 := (HLd.out.step.trans HP2.out.1).trans (hSt3.range (Nat.le_refl o) (Nat.le_succ o) (Nat.le_succ o) (Nat.le_refl _))
    clear HA hP3 hQ3 hSt3
    by_cases hE : appE s t bs = 0
    · have hN2 := HLd.out.nb.app bs HBY.out
      have ho2 := outs_app s t bs
      have HL3 : Hid (Laid w tag base o D B b l q (k + 1) w3 (appS s t bs) (appT s t bs) tag3) :=
        ⟨hSt03, hBK3, hN2.1, by rw [HLd.out.eE, HCe.out, if_neg (by simpa using hE)], by rw [HLd.out.eS, HCs.out, if_neg (by simpa using hE)], by rw [HLd.out.eT, HCt.out, if_neg (by simpa using hE)], by omega, by have := hN2.2.2; omega⟩
      rw [hE]
      clear hSt03 hBK3 hN2 ho2
      go_wp2_with fail
      refine (by exact hneed _ : Calls _ _ _ _ _).mono ?_
      rintro e w3' ⟨rfl, hx⟩
      rw [hx]
      clear hx
      go_wp2
      go_roundg (l.length - (k + 1))
      case rel => exact ⟨k + 1, _, _, _, by omega, by go_num, HL3.out⟩
      case measure => omega
    · have HR : Hid (∃ tag', StepR tag tag' base o (o + 1) w w3 ∧ BK w3 tag' base o D B ⟨layS b.s b.t l, layT b.s b.t l, b.L, b.D⟩ ∧ .panicked (chainOf (appE s t bs)) = stepEnd (layE b.s b.t l)) :=
        ⟨tag3, hSt03, by rw [HLd.out.eS, HLd.out.eT, HCs.out, HCt.out, if_pos hE, if_pos hE]; exact hBK3, by rw [HLd.out.eE, HCe.out, if_pos hE, stepEnd_no hE]⟩
      clear hSt03 hBK3
      have hyes := need_yes (appE s t bs) w3 hE
      go_wp2_with fail
      refine (by exact hyes : Calls _ _ _ _ _).mono ?_
      rintro e w3' ⟨rfl, hx⟩
      rw [hx]
      clear hx
      go_wp2
      exact ⟨rfl, HR.out⟩

end Go.Proofs.YtafkkehcacdodaaGreat
