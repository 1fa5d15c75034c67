/- SectorTorn: of one Write over a sector that was certain a crash leaves its beginning, and behind that what was there. -/
import Derived.Test.YtlmmhgbpknnecaaSecAwake
import Derived.Test.YtlmmhgbpknnecaaRows
set_option maxRecDepth 100000
namespace Go.Proofs.Ytlmmhgbpknnecaa
open Go.ChangeShapes Go.WideShapes Go.ChangeAt Go.RowKit

def IsU8 (_ : World) (v : Value) : Prop := ∃ x : Int, v = .int .u8 x ∧ 0 ≤ x ∧ x < 256

theorem view5 {H : Type} {enc : TypeId × Value → H} {w : World} {base b0 : Nat} {held : Bool} {r : Reach} {v : Value} {d : DataW H} {ps : List MemPlace} (hv : Value.okWide Try.prog w r b0 5 v) (h : DataW.Trod enc Try.prog w base (fun _ => true) held 5 v d ps) (_ : ∀ n ∈ d.weights Try.prog 5, n ≤ reachBytes) : IsU8 w v := by
  obtain ⟨x, rfl, rfl, rfl, wx⟩ := open_int Try.underlying5 hv h
  exact ⟨x, rfl, byte_of_wf wx⟩

end Go.Proofs.Ytlmmhgbpknnecaa
namespace Go.Proofs.Ytlmmhgbpknnecaa.sectorTorn
open Go.ChangeShapes Go.WideShapes Go.ChangeAt Go.RowKit

theorem splice_all {α : Type} (l b : List α) (h : b.length = l.length) : splice l 0 b = b := by
  unfold splice; simp [h]

theorem sync_okI (w : World) (tag : Nat → Nat) (base o : Nat) (s : St) (p : PL) (h : PD w tag base o s p) (hbase : base ≤ w.heap.size) (hops : s.ops ≤ 1000000) (hout : s.outs.length ≤ 1000000) (hsin : s.since.length ≤ 1000000) (D : Nat) (hD : p.D = D) (E : Int) (hE : errC s.out = E) :
    Calls Try.prog 16 #[.pointer (some ⟨D, 0, none⟩)] w fun e w' => e = .returned (.int .i64 E) ∧ ∃ p', p'.D = D ∧ PD w' tag base o s.sync p' ∧ Step tag tag base o w w' := by
  subst hD; subst hE
  exact sync_ok w tag base o s p h hbase hops hout hsin

theorem crash_okI (w : World) (tag : Nat → Nat) (base o o' : Nat) (s : St) (p : PL) (h : PD w tag base o s p) (hbase : base ≤ w.heap.size) (hsin : s.since.length ≤ 1000000) (v : Value) (ch : List Int) (hv : Bts w v ch) (D : Nat) (hD : p.D = D) :
    Calls Try.prog 13 #[.pointer (some ⟨D, 0, none⟩), v] w fun e w' => ∃ p2 tag', e = .returned (.pointer (some ⟨p2.D, 0, none⟩)) ∧ PD w' tag' base o' (s.crash ch) p2 ∧ (∀ k, k < w.heap.size → tag' k = tag k) ∧ Below w.heap.size w w' := by
  subst hD
  exact crash_ok w tag base o o' s p h hbase hsin v ch hv

/-- The sector behind the crash. -/
def tornS (a b : Int) (m : Nat) : List Int := List.replicate m b ++ List.replicate (64 - m) a

def s3 (a b : Int) : St := ((((St.new 1).take.wrote 0 (List.replicate 64 a)).take.settled).take.wrote 0 (List.replicate 64 b))

theorem s3_crash (a b c : Int) : sec ((s3 a b).crash [c]).now 0 = tornS a b (leftN [c] 0) := by
  have e1 : (s3 a b).sure = List.replicate 64 a := by
    show splice (zeros (1 * 64)) (0 * 64) (List.replicate 64 a) = _
    exact splice_all _ _ (by simp [zeros])
  have hm := leftN_le [c] 0
  have e2 : ((s3 a b).crash [c]).now = splice (s3 a b).sure (0 * 64) ((List.replicate 64 b).take (leftN [c] 0)) := rfl
  have hmin : min (leftN [c] 0) 64 = leftN [c] 0 := by omega
  rw [e2, e1, List.take_replicate, hmin]
  unfold sec tornS splice
  simp only [Nat.zero_mul, List.take_zero, List.nil_append, List.length_replicate, Nat.zero_add, List.drop_replicate, List.drop_zero]
  rw [List.take_of_length_le (by simp; omega)]

theorem torn_get (a b : Int) (m k : Nat) (hm : m ≤ 64) (hk : k < 64) : (tornS a b m).getD k 0 = if k < m then b else a := by
  unfold tornS
  rw [List.getD_eq_getElem?_getD]
  by_cases h : k < m
  · rw [List.getElem?_append_left (by simpa using h), if_pos h]; simp [h]
  · rw [List.getElem?_append_right (by simp; omega), if_neg h, List.length_replicate, List.getElem?_replicate, if_pos (by omega)]
    rfl

set_option maxHeartbeats 8000000 in
theorem walk (v0 v1 v2 : Value) (w : World) (V0 : IsU8 w v0) (V1 : IsU8 w v1) (V2 : IsU8 w v2) : Calls Try.prog 6 #[v0, v1, v2] w fun e w' => e = .returned (.bool true) ∧ Below w.heap.size w w' := by
  obtain ⟨a, rfl, a0, a1⟩ := V0
  obtain ⟨b, rfl, b0, b1⟩ := V1
  obtain ⟨c, rfl, c0, c1⟩ := V2
  have hba : isBytes (List.replicate 64 a) := isBytes_rep _ _ ⟨a0, a1⟩
  have hbb : isBytes (List.replicate 64 b) := isBytes_rep _ _ ⟨b0, b1⟩
  have HBA : Hid (isBytes (List.replicate 64 a)) := hba
  have HBB : Hid (isBytes (List.replicate 64 b)) := hbb
  clear hba hbb
  go_enter Try.func6, Try.ntmps6
  go_wp2_with (go_at_call 9; refine (awake7_ok _).mono ?_; rintro e w1 ⟨rfl, hA⟩)
  refine (fresh_ok w1 (fun _ => 0) w.heap.size 1 1 1 rfl hA.size (by omega) (by omega)).mono ?_
  rintro e w2 ⟨p, tag, rfl, hP, _, hB⟩
  have hB2 : Below w.heap.size w w2 := hA.trans (hB.mono hA.size)
  clear hA hB
  go_wp2_with fail
  refine (ones_ok w2 a).mono ?_
  rintro e w3 ⟨v, rfl, hO, hB3⟩
  have HW := write_okI w3 (clip tag w2.heap.size) w.heap.size 1 (St.new 1) p (hP.clip hB3) (Nat.le_trans hB2.size hB3.size) 0 0 rfl (by decide) v (List.replicate 64 a) (hO.bts HBA.out) (by simp) (hO.tag0 tag 1 (by omega)) (by decide) (by decide) (by decide) 0 rfl
  have hB03 : Below w.heap.size w w3 := hB2.trans (hB3.mono hB2.size)
  clear hP hO hB2 hB3
  go_wp2_with fail
  refine HW.mono ?_
  rintro e w4 ⟨rfl, p4, tag4, hD4, hP4, hS4⟩
  rw [write_done_eq (new_out 1)] at hP4
  have hB04 : Below w.heap.size w w4 := hB03.trans hS4.below
  have HSy := sync_okI w4 tag4 w.heap.size 1 _ p4 hP4 hB04.size (show 1 ≤ 1000000 by decide) (show 0 ≤ 1000000 by decide) (show 1 ≤ 1000000 by decide) p.D hD4 0 rfl
  clear HW hS4 hB03 hP4 hD4
  go_wp2_with fail
  refine HSy.mono ?_
  rintro e w5 ⟨rfl, p5, hD5, hP5, hS5⟩
  have hB05 : Below w.heap.size w w5 := hB04.trans hS5.below
  have hP5' : PD w5 tag4 w.heap.size 1 (((St.new 1).take.wrote 0 (List.replicate 64 a)).take.settled) p5 := hP5
  clear HSy hS5 hB04 hP5
  go_wp2_with fail
  refine (ones_ok w5 b).mono ?_
  rintro e w6 ⟨v6, rfl, hO6, hB6⟩
  have HW := write_okI w6 (clip tag4 w5.heap.size) w.heap.size 1 _ p5 (hP5'.clip hB6) (Nat.le_trans hB05.size hB6.size) 0 0 rfl (show 0 < 1 by decide) v6 (List.replicate 64 b) (hO6.bts HBB.out) (by simp) (hO6.tag0 tag4 1 (by omega)) (show 2 ≤ 1000000 by decide) (show 0 ≤ 1000000 by decide) (show 0 ≤ 1000000 by decide) 0 rfl
  rw [hD5] at HW
  have hB06 : Below w.heap.size w w6 := hB05.trans (hB6.mono hB05.size)
  clear hP5' hO6 hB05 hB6 hD5
  go_wp2_with fail
  refine HW.mono ?_
  rintro e w7 ⟨rfl, p7, tag7, hD7, hP7, hS7⟩
  rw [write_done_eq rfl] at hP7
  have hB07 : Below w.heap.size w w7 := hB06.trans hS7.below
  clear HW hS7 hB06
  have hP7' : PD w7 tag7 w.heap.size 1 (s3 a b) p7 := hP7
  have hB8 : Below w7.heap.size w7 (w7.alloc (.cells #[.int .u8 c] 5)) := below_alloc _ _
  have HC := crash_okI (w7.alloc (.cells #[.int .u8 c] 5)) tag7 w.heap.size 1 1 (s3 a b) p7 (hP7'.later hB8) (Nat.le_trans hB07.size hB8.size) (show 1 ≤ 1000000 by decide) (.slice (some ⟨w7.heap.size, 0, none⟩) 1 1) [c] (bts_new1 w7 w7.heap.size c rfl ⟨c0, c1⟩) p.D hD7
  have hB08 : Below w.heap.size w (w7.alloc (.cells #[.int .u8 c] 5)) := hB07.trans (hB8.mono hB07.size)
  clear hP7 hP7' hB8 hB07 hD7
  go_wp2_with fail
  refine HC.mono ?_
  rintro e w9 ⟨p9, tag9, rfl, hP9, _, hB9⟩
  have HR := read_okI w9 tag9 w.heap.size 1 _ p9 hP9 0 0 rfl (show 0 < 1 by decide) _ (s3_crash a b c)
  have hB09 : Below w.heap.size w w9 := hB08.trans (hB9.mono hB08.size)
  clear HC hP9 hB9 hB08
  go_wp2_with fail
  refine HR.mono ?_
  rintro e w10 ⟨u, rfl, hU, _, hB10⟩
  have hB10' : Below w.heap.size w w10 := hB09.trans (hB10.mono hB09.size)
  clear HR hB09 hB10
  obtain ⟨ua, uc, ub, uo, rfl, hl, hm, _, hua, hse⟩ := hU
  have hm64 := leftN_le [c] 0
  have hlen : (tornS a b (leftN [c] 0)).length = 64 := by unfold tornS; simp; omega
  rcases hua with rfl | hnil
  case inr => rw [hnil] at hlen; simp at hlen
  rw [hlen] at hl ⊢
  unfold maxLen at hm
  have hcell : ∀ k, k < 64 → w10.cell? ⟨ub, uo + k, none⟩ = some (.int .u8 (if k < leftN [c] 0 then b else a)) := fun k hk => by
    rw [hse k (by rw [hlen]; exact hk), torn_get a b _ k hm64 hk]
  have HCELL : Hid (∀ k, k < 64 → w10.cell? ⟨ub, uo + k, none⟩ = some (.int .u8 (if k < leftN [c] 0 then b else a))) := hcell
  have HB10 : Hid (Below w.heap.size w w10) := hB10'
  clear hse hcell hlen hB10'
  have hL : leftN [c] 0 = if c % 3 = 0 then 64 else if c % 3 = 1 then 0 else min (c / 3).toNat 64 := rfl
  have hd0 : 0 ≤ c / 3 := by omega
  have hd1 : c / 3 ≤ 85 := by omega
  have hcases : (∃ X : Int, X = 64 ∧ c % 3 = 0 ∧ ((leftN [c] 0 : Nat) : Int) = X) ∨ (c % 3 = 1 ∧ ((leftN [c] 0 : Nat) : Int) = 0) ∨ (c % 3 = 2 ∧ c / 3 ≤ 64 ∧ ((leftN [c] 0 : Nat) : Int) = c / 3) ∨ (c % 3 = 2 ∧ 64 < c / 3 ∧ ((leftN [c] 0 : Nat) : Int) = 64) := by
    rw [hL]
    by_cases k0 : c % 3 = 0
    · left; exact ⟨64, rfl, k0, by rw [if_pos k0]; rfl⟩
    · by_cases k1 : c % 3 = 1
      · right; left; exact ⟨k1, by rw [if_neg k0, if_pos k1]; rfl⟩
      · by_cases k2 : c / 3 ≤ 64
        · right; right; left; exact ⟨by omega, k2, by rw [if_neg k0, if_neg k1]; omega⟩
        · right; right; right; exact ⟨by omega, by omega, by rw [if_neg k0, if_neg k1]; omega⟩
  clear hL
  generalize leftN [c] 0 = m at *
  rcases hcases with ⟨X, rfl, k0, hX⟩ | ⟨k0, hX⟩ | ⟨k0, k1, hX⟩ | ⟨k0, k1, hX⟩
  all_goals
    have HX := hX
    have HXX : Hid _ := HX
    clear hX HX
    go_wp2_with fail
    go_loop [11] (fun i => ∃ k : Nat, k ≤ 64 ∧ i = .int .i64 k) (fun i => 64 - (intOf i).toNat)
    case atStart => exact ⟨0, Nat.zero_le _, rfl⟩
    case round =>
      obtain ⟨k, hk, rfl⟩ := hrel
      by_cases hlt : k < 64
      · have hltI : (k : Int) < 64 := by omega
        have hc := HCELL.out k hlt
        by_cases hkm : k < m
        · rw [if_pos hkm] at hc
          have hkX : (k : Int) < (m : Int) := by omega
          rw [HXX.out] at hkX
          have hkn := Int.not_le.2 hkX
          clear hkm
          first
            | (exfalso; omega)
            | (go_wp2
               go_round
               case rel => exact ⟨k + 1, by omega, by go_num⟩
               case measure => simp [intOf]; omega)
        · rw [if_neg hkm] at hc
          have hkX : (m : Int) ≤ (k : Int) := by omega
          rw [HXX.out] at hkX
          have hkn := Int.not_lt.2 hkX
          clear hkm
          first
            | (exfalso; omega)
            | (go_wp2
               go_round
               case rel => exact ⟨k + 1, by omega, by go_num⟩
               case measure => simp [intOf]; omega)
      · have hke : k = 64 := by omega
        subst hke
        go_wp2
        go_ret
        exact ⟨rfl, HB10.out⟩

set_option maxRecDepth 100000 in
theorem lifted (os : Os) (started : os.Started) (H : Type) (enc : TypeId × Value → H) :
    ReturnsInHanded {} Try.checked os 6 .any (Rows.sectorTornSpec.pre6 enc Try.prog Try.f6 Rows.sectorTornRow.domain false) (Rows.sectorTornSpec.post enc Try.prog Try.f6 false true false false) := by
  refine returnsInHanded_of_change_sized (C := Try.checked) own started (by kernel_rfl) Try.func6
    (ChangeSpec.witness6 (enc := enc) (C := Try.checked) false ⟨#[], #[.int .u8 0, .int .u8 0, .int .u8 0], []⟩ 8 (by kernel_rfl) (by kernel_rfl) (by kernel_rfl) (by kernel_rfl)) ?_
  intro W base args ds gs before hval0 hW hcnd hsz0 _
  have hval : ∀ (j : Nat) t v, Try.f6.params[j]? = some t → args[j]? = some v → Value.okWide Try.prog W .any base t v := hval0
  have hsz : ∀ n ∈ DataW.weightsEach Try.prog (Try.f6.params.toList ++ Rows.sectorTornSpec.plain.varTypes Try.prog) (ds ++ gs), n ≤ reachBytes := fun n hn => by simpa using List.all_eq_true.1 hsz0 n hn
  have hW' := hW
  obtain ⟨p, q, hA0, hV, rfl, hfz, hnd⟩ := hW
  have hA : DataW.TrodAll enc Try.prog W 0 (fun _ => true) true Try.f6.params.toList args.toList ds p := hA0
  rw [Try.params6] at hA hval hsz
  obtain ⟨v0, vs0, d0, ds0, p0, q0, hargs, rfl, rfl, h0, r0⟩ := trodAll_cons hA
  obtain ⟨v1, vs1, d1, ds1, p1, q1, rfl, rfl, rfl, h1, r1⟩ := trodAll_cons r0
  obtain ⟨v2, vs2, d2, ds2, p2, q2, rfl, rfl, rfl, h2, r2⟩ := trodAll_cons r1
  obtain ⟨rfl, rfl, rfl⟩ := trodAll_nil r2
  obtain rfl : args = #[v0, v1, v2] := by cases args; simp_all
  obtain ⟨rfl, rfl⟩ := trodVars_none hV
  have lt0 : ∀ x ∈ p0, x.block < W.heap.size := by obtain ⟨m, hm⟩ := h0; exact DataW.trod_lt m _ _ _ hm
  have V0 := view5 (hval 0 5 v0 rfl rfl) h0 (fun n hn => hsz n (DataW.weights_mem_each (j := 0) rfl rfl n hn))
  have lt1 : ∀ x ∈ p1, x.block < W.heap.size := by obtain ⟨m, hm⟩ := h1; exact DataW.trod_lt m _ _ _ hm
  have V1 := view5 (hval 1 5 v1 rfl rfl) h1 (fun n hn => hsz n (DataW.weights_mem_each (j := 1) rfl rfl n hn))
  have lt2 : ∀ x ∈ p2, x.block < W.heap.size := by obtain ⟨m, hm⟩ := h2; exact DataW.trod_lt m _ _ _ hm
  have V2 := view5 (hval 2 5 v2 rfl rfl) h2 (fun n hn => hsz n (DataW.weights_mem_each (j := 2) rfl rfl n hn))
  clear hA0 hval0 hsz0 hsz
  refine (walk v0 v1 v2 W V0 V1 V2).mono fun e W' ⟨he, bel⟩ => ?_
  subst he
  exact ⟨_, rfl, _, _, _, [], _, [], hW', trodAll_mk1 (shut_bool Try.underlying4 _), (trodAll_cons_mk (Below.trod laidOut (by kernel_rfl) (of_decide_eq_true (by kernel_rfl)) h0 bel lt0) (trodAll_cons_mk (Below.trod laidOut (by kernel_rfl) (of_decide_eq_true (by kernel_rfl)) h1 bel lt1) (trodAll_cons_mk (Below.trod laidOut (by kernel_rfl) (of_decide_eq_true (by kernel_rfl)) h2 bel lt2) trodAll_mk0))), rfl, bel.frame _, fun h => by cases h⟩

theorem over : Rows.sectorTornRow.holds Try.pinned (OpenSpec.ofChange Rows.sectorTornSpec) :=
  OpenClaim.holds_of_wide 6 Try.f6 rfl rfl rfl rfl rfl rfl rfl ⟨rfl, rfl, rfl, rfl, rfl⟩ rfl rfl rfl rfl rfl (by kernel_rfl) Try.func6 (by kernel_rfl)
    (of_decide_eq_true (by kernel_rfl)) (by unfold Func.isWrapper; first | (rw [if_pos (by decide +kernel)]; kernel_rfl) | (rw [if_neg (by decide +kernel)]; exact ⟨rfl, rfl⟩))
    (fun os started H enc _ => lifted os started H enc)

end Go.Proofs.Ytlmmhgbpknnecaa.sectorTorn
namespace Go.Proofs.Ytlmmhgbpknnecaa
theorem sectorTorn_holds : Rows.SectorTornSaid := sectorTorn.over
#print axioms sectorTorn_holds
end Go.Proofs.Ytlmmhgbpknnecaa
