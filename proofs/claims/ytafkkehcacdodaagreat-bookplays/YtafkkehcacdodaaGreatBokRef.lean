/- The document's book in memory: append, Pay, write, Grant, Release. -/
import Derived.Test.YtafkkehcacdodaaGreatBokGrant
import Derived.Test.YtafkkehcacdodaaGreatStrLooks
import Derived.Test.YtafkkehcacdodaaGreatEntREnc
set_option maxRecDepth 100000
namespace Go.Proofs.YtafkkehcacdodaaGreat
open Go.RowKit Go.Shelf

theorem MS.otherR {w w' : World} {tag tag' : Nat → Nat} {base lo hi b M n pos used : Nat} {bs : List (List Int)} {cs : List Int} {q : TL} (h : MS w tag base b M n pos used bs cs q) (hb : StepR tag tag' base lo hi w w') (ho : b < lo ∨ hi < b) : MS w' tag' base b M n pos used bs cs q :=
  h.keep (fun k hk ht => hb.kept k hk (by rw [ht]; exact ho)) hb.tags hb.below.size

/-- A book of the document with its strand and its disk, of the owners o, o + 1, o + 2. -/
def RK (w : World) (tag : Nat → Nat) (base o M B : Nat) (b : Bm) : Prop :=
  ∃ p q kv dv, p.M = M ∧ MD w tag base o b.s p ∧ MSt w tag base (o + 1) M b.s.n b.t q ∧ PB w tag base (o + 2) q.T b.L b.D B kv dv

section
variable {w w' : World} {tag tag' : Nat → Nat} {base o M B : Nat} {b : Bm}

theorem RK.otherR {lo hi : Nat} (h : RK w tag base o M B b) (hb : StepR tag tag' base lo hi w w') (ho : o + 2 < lo ∨ hi < o) : RK w' tag' base o M B b := by
  obtain ⟨p, q, kv, dv, h0, h1, h2, h3⟩ := h
  exact ⟨p, q, kv, dv, h0, h1.otherR hb (by omega), h2.otherR hb (by omega), h3.otherR hb (by omega)⟩

theorem RK.new (h : RK w tag base o M B b) (hb : Below w.heap.size w w') : RK w' (clip tag w.heap.size) base o M B b := by
  obtain ⟨p, q, kv, dv, h0, h1, h2, h3⟩ := h
  exact ⟨p, q, kv, dv, h0, h1.keep (fun k hk _ => hb.block k hk) (fun k hk => clip_lt _ _ _ hk), h2.keep (fun k hk _ => hb.block k hk) (fun k hk => clip_lt _ _ _ hk) hb.size, h3.keep (fun k hk _ => hb.block k hk) (fun k hk => clip_lt _ _ _ hk)⟩

theorem RK.later (h : RK w tag base o M B b) (hb : Below w.heap.size w w') : RK w' tag base o M B b := by
  obtain ⟨p, q, kv, dv, h0, h1, h2, h3⟩ := h
  exact ⟨p, q, kv, dv, h0, h1.later hb, h2.later hb, h3.later hb⟩

end

/-- One entry more among a book's own: its row is another one. -/
theorem pb_known {w : World} {tag : Nat → Nat} {base o S B : Nat} {L D : List En} {kv dv : Value} (h : PB w tag base o S L D B kv dv) (hbase : base ≤ w.heap.size) (hl : L.length ≤ 900000) (r : En) :
    ∃ a c, kv = .slice a L.length c ∧ ∃ a5 c5 w5, (Builtin.append_ #[63, 63] 63 #[.slice a L.length c, .slice (some ⟨w.heap.size, 0, none⟩) 1 1]).run Tryz.prog (w.alloc (.cells (enC r) 73)) = .ok (.slice a5 (L.length + 1) c5) w5 ∧
      w5.cell? ⟨B, 1, none⟩ = some (.slice a L.length c) ∧ w5.frozen? ⟨B, 1, none⟩ = false ∧ ∃ tag', StepR tag tag' base o o w (w5.setCell ⟨B, 1, none⟩ (.slice a5 (L.length + 1) c5)) ∧ PB (w5.setCell ⟨B, 1, none⟩ (.slice a5 (L.length + 1) c5)) tag' base o S (L ++ [r]) D B (.slice a5 (L.length + 1) c5) dv := by
  obtain ⟨a, c, rfl, hc1, hc2⟩ := win_form h.wK
  refine ⟨a, c, rfl, ?_⟩
  have hBW := below_alloc w (.cells (enC r) 73)
  have h4 : PB (w.alloc (.cells (enC r) 73)) (clip tag w.heap.size) base o S L D B (.slice a L.length c) dv := h.keep (fun k hk _ => hBW.block k hk) (fun k hk => clip_lt _ _ _ hk)
  have hwin : Win (w.alloc (.cells (enC r) 73)) 5 (.slice (some ⟨w.heap.size, 0, none⟩) 1 1) [r].length ([r].flatMap eL5) := by
    rw [List.flatMap_cons, List.flatMap_nil, List.append_nil]
    exact win_one w (enC r) 73 rfl
  obtain ⟨v', w5, tag5, hr, hwin5, hst, htag, hkp⟩ := append_own9 h4.wK h4.tK (o := o) (by omega) (Nat.le_trans hbase hBW.size) _ [r] hwin (by simp; omega)
  obtain ⟨a5, c5, rfl, _⟩ := win_form hwin5
  have hl5 : (L ++ [r]).length = L.length + 1 := by simp
  rw [hl5] at hr htag
  have hBl := h4.bB.lt
  have hBd : (Value.slice a L.length c).ownBlock ≠ some B := fun e => by have := (h4.tK B e).1; have := h4.tB.1; omega
  have hb5 : Blk w5 B [.pointer (some ⟨S, 0, none⟩), .slice a L.length c, dv] := h4.bB.same (hkp B hBl hBd)
  have htB : tag5 B = 16 * o + 1 := by rw [hst.tags B hBl]; exact h4.tB.1
  have hvB : (Value.slice a5 (L.length + 1) c5).ownBlock ≠ some B := fun e => by have := (htag B e).1; omega
  have hst2 : Step (clip tag w.heap.size) tag5 base o (w.alloc (.cells (enC r) 73)) (w5.setCell ⟨B, 1, none⟩ (.slice a5 (L.length + 1) c5)) := hst.set h4.tB.2 (by omega) 1 _
  have hsR := hst2.range (lo := o) (hi := o) (Nat.le_refl _) (Nat.le_refl _)
  refine ⟨a5, c5, w5, hr, hb5.cell 1, hb5.frozen 1, tag5, (stepR_clip tag base o o hbase hBW).trans hsR, ⟨?_, ?_, ?_, ⟨htB, h4.tB.2⟩, htag, ?_⟩⟩
  · simpa using hb5.set 1 (.slice a5 (L.length + 1) c5)
  · rw [hl5] at hwin5 ⊢
    exact hwin5.same (fun g hg => heap_setCell_other _ _ g _ (fun e => hvB (by rw [hg, show g = B from e])))
  · refine h4.wD.same (fun g hg => ?_)
    have ht := (h4.tD g hg).1
    rw [heap_setCell_other _ _ g _ (fun e => by have : g = B := e; rw [this] at ht; have := h4.tB.1; omega)]
    exact hkp g (h4.wD.lt g hg) (fun e => by have := (h4.tK g e).1; omega)
  · exact fun g hg => ⟨by rw [hst.tags g (h4.wD.lt g hg)]; exact (h4.tD g hg).1, (h4.tD g hg).2⟩

/-- One debt more: the row of debts is another one. -/
theorem pb_owe {w : World} {tag : Nat → Nat} {base o S B : Nat} {L D : List En} {kv dv : Value} (h : PB w tag base o S L D B kv dv) (hbase : base ≤ w.heap.size) (hl : D.length ≤ 900000) (r : En) :
    ∃ a c, dv = .slice a D.length c ∧ ∃ a5 c5 w5, (Builtin.append_ #[63, 63] 63 #[.slice a D.length c, .slice (some ⟨w.heap.size, 0, none⟩) 1 1]).run Tryz.prog (w.alloc (.cells (enC r) 73)) = .ok (.slice a5 (D.length + 1) c5) w5 ∧
      w5.cell? ⟨B, 2, none⟩ = some (.slice a D.length c) ∧ w5.frozen? ⟨B, 2, none⟩ = false ∧ ∃ tag', StepR tag tag' base o o w (w5.setCell ⟨B, 2, none⟩ (.slice a5 (D.length + 1) c5)) ∧ PB (w5.setCell ⟨B, 2, none⟩ (.slice a5 (D.length + 1) c5)) tag' base o S L (D ++ [r]) B kv (.slice a5 (D.length + 1) c5) := by
  obtain ⟨a, c, rfl, hc1, hc2⟩ := win_form h.wD
  refine ⟨a, c, rfl, ?_⟩
  have hBW := below_alloc w (.cells (enC r) 73)
  have h4 : PB (w.alloc (.cells (enC r) 73)) (clip tag w.heap.size) base o S L D B kv (.slice a D.length c) := h.keep (fun k hk _ => hBW.block k hk) (fun k hk => clip_lt _ _ _ hk)
  have hwin : Win (w.alloc (.cells (enC r) 73)) 5 (.slice (some ⟨w.heap.size, 0, none⟩) 1 1) [r].length ([r].flatMap eL5) := by
    rw [List.flatMap_cons, List.flatMap_nil, List.append_nil]
    exact win_one w (enC r) 73 rfl
  obtain ⟨v', w5, tag5, hr, hwin5, hst, htag, hkp⟩ := append_own9 h4.wD h4.tD (o := o) (by omega) (Nat.le_trans hbase hBW.size) _ [r] hwin (by simp; omega)
  obtain ⟨a5, c5, rfl, _⟩ := win_form hwin5
  have hl5 : (D ++ [r]).length = D.length + 1 := by simp
  rw [hl5] at hr htag
  have hBl := h4.bB.lt
  have hBd : (Value.slice a D.length c).ownBlock ≠ some B := fun e => by have := (h4.tD B e).1; have := h4.tB.1; omega
  have hb5 : Blk w5 B [.pointer (some ⟨S, 0, none⟩), kv, .slice a D.length c] := h4.bB.same (hkp B hBl hBd)
  have htB : tag5 B = 16 * o + 1 := by rw [hst.tags B hBl]; exact h4.tB.1
  have hvB : (Value.slice a5 (D.length + 1) c5).ownBlock ≠ some B := fun e => by have := (htag B e).1; omega
  have hst2 : Step (clip tag w.heap.size) tag5 base o (w.alloc (.cells (enC r) 73)) (w5.setCell ⟨B, 2, none⟩ (.slice a5 (D.length + 1) c5)) := hst.set h4.tB.2 (by omega) 2 _
  have hsR := hst2.range (lo := o) (hi := o) (Nat.le_refl _) (Nat.le_refl _)
  refine ⟨a5, c5, w5, hr, hb5.cell 2, hb5.frozen 2, tag5, (stepR_clip tag base o o hbase hBW).trans hsR, ⟨?_, ?_, ?_, ⟨htB, h4.tB.2⟩, ?_, htag⟩⟩
  · simpa using hb5.set 2 (.slice a5 (D.length + 1) c5)
  · refine h4.wK.same (fun g hg => ?_)
    have ht := (h4.tK g hg).1
    rw [heap_setCell_other _ _ g _ (fun e => by have : g = B := e; rw [this] at ht; have := h4.tB.1; omega)]
    exact hkp g (h4.wK.lt g hg) (fun e => by have := (h4.tD g e).1; omega)
  · rw [hl5] at hwin5 ⊢
    exact hwin5.same (fun g hg => heap_setCell_other _ _ g _ (fun e => hvB (by rw [hg, show g = B from e])))
  · exact fun g hg => ⟨by rw [hst.tags g (h4.wK.lt g hg)]; exact (h4.tK g hg).1, (h4.tK g hg).2⟩

set_option maxHeartbeats 1000000 in
theorem rapp_ok (w : World) (tag : Nat → Nat) (base o M B : Nat) (ho : 1 ≤ o) (b : Bm) (h : RK w tag base o M B b) (hbase : base ≤ w.heap.size) (e : En) (hm : e.May) (hok : e.Ok) (q : Nat) (hn : Nb b.s b.t q)
    (hq : q ≤ 900000) (hout : b.s.outs.length ≤ 900000) (hrec : b.t.recs.length ≤ 900000) :
    Calls Tryz.prog 39 #[.pointer (some ⟨B, 0, none⟩), enV e] w fun r w' => r = .returned (.int .i64 (appE b.s b.t (bytesE e))) ∧ ∃ tag', StepR tag tag' base o (o + 1) w w' ∧ RK w' tag' base o M B ⟨appS b.s b.t (bytesE e), appT b.s b.t (bytesE e), b.L, b.D⟩ := by
  have hba := below_alloc w (.cells (enC e) 73)
  have HE := rencode_ok e (w.alloc (.cells (enC e) 73)) hm hok
  have HK : Hid (RK w tag base o M B b) := h
  have HF : Hid (frameE (bytesE e) = 0) := frameE_bytes hm
  have HBY : Hid (isBytes (bytesE e)) := bytesE_bytes e
  have hn1 := (appS_ok hn.ok hn.tk (bytesE e) (bytesE_bytes e)).2
  have hops := hn.ops
  have hsin := hn.sin
  have htk := hn.tk
  clear h hm hok
  generalize bytesE e = bs at *
  obtain ⟨k0, k1, k2, k3, k4⟩ := e
  go_enter Tryz.func39, Tryz.ntmps39
  go_wp2_with fail
  refine (by exact HE : Calls _ _ _ _ _).mono ?_
  rintro r w2 ⟨v, rfl, hO, hB2⟩
  have hB02 : Below w.heap.size w w2 := hba.trans (hB2.mono hba.size)
  obtain ⟨p, q', kv, dv, hD, hP, hPo, hPb⟩ := HK.out.new hB02
  have hHd : Held w2 (clip tag w.heap.size) v bs := (hO.low hba.size).held HBY.out
  have g0 := hPb.s0
  have hbw2 : base ≤ w2.heap.size := Nat.le_trans hbase hB02.size
  have HA := rappend_ok8 w2 (clip tag w.heap.size) base o (o + 1) (by omega) ho (by omega) b.s p hP b.t q' (by rw [hD]; exact hPo) hbw2 htk v bs hHd HF.out (by omega) (by omega) (by omega) (by omega)
  have HP2 : Hid (StepR tag (clip tag w.heap.size) base o (o + 1) w w2 ∧ PB w2 (clip tag w.heap.size) base (o + 2) q'.T b.L b.D B kv dv) := ⟨stepR_clip tag base o (o + 1) hbase hB02, hPb⟩
  obtain ⟨va, vc, hvv, _⟩ := bts_src hHd.1
  subst hvv
  clear HE hO hB2 hB02 hP hPo hPb hHd hba
  go_wp2_with fail
  refine HA.mono ?_
  rintro r w3 ⟨rfl, p3, q3, tag3, hD3, hS3, hP3, hQ3, hSt3⟩
  have hS := hSt3.range (lo := o) (hi := o + 1) (Nat.le_refl o) (Nat.le_succ o) (Nat.le_succ o) (Nat.le_refl _)
  have HR : Hid (StepR tag tag3 base o (o + 1) w w3 ∧ RK w3 tag3 base o M B ⟨appS b.s b.t bs, appT b.s b.t bs, b.L, b.D⟩) := ⟨HP2.out.1.trans hS, p3, q3, kv, dv, by rw [hD3, hD], hP3, by rw [← hD]; show MSt w3 tag3 base (o + 1) p.M (appS b.s b.t bs).n _ q3; rw [hn1]; exact hQ3, by rw [hS3]; exact HP2.out.2.otherR hS (by omega)⟩
  clear HA hP3 hQ3 hSt3 hS
  go_wp2
  go_ret
  exact ⟨rfl, tag3, HR.out.1, HR.out.2⟩

end Go.Proofs.YtafkkehcacdodaaGreat
