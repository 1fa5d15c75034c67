/- The contract of BuildPiece, the document's own answer, of a segment that may be. -/
import Derived.Test.YtgeeoggbijimoaaTcpRbuild
namespace Go.Proofs.Ytgeeoggbijimoaa
open Go.RowKit

theorem rfix_list (p : Pc) (f : inB p.flags 255) (o : p.opts.length ≤ 40) :
    ((((((((([] ++ bytesOfN 2 p.src) ++ bytesOfN 2 p.dst) ++ bytesOfN 4 p.seq) ++ bytesOfN 4 p.ack) ++ [(20 + (p.opts.length : Int)) / 4 * 16, p.flags]) ++ bytesOfN 2 p.window) ++ [0, 0]) ++ bytesOfN 2 p.urgent)) = fixT p 0 := by
  unfold inB at f
  have e1 : p.lead / 256 % 256 = (20 + (p.opts.length : Int)) / 4 * 16 := by unfold Pc.lead; omega
  have e2 : p.lead % 256 = p.flags := by unfold Pc.lead; omega
  unfold fixT
  rw [e1, e2]
  rfl

theorem set1617 (p : Pc) (x : Int) (h0 : 0 ≤ x) (h1 : x ≤ 65535) (m : List Int) : ((fixT p 0 ++ m).set 16 (x / 256)).set 17 (x % 256) = fixT p x ++ m := by
  have e : x / 256 % 256 = x / 256 := by omega
  simp [fixT, e]

set_option maxRecDepth 100000 in
set_option maxHeartbeats 8000000 in
theorem trbuild_ok (s d : Int) (p : Pc) (ao ad : Option Addr) (co cd : Nat) (w : World) (s0 : 0 ≤ s) (s1 : s < 4294967296) (t0 : 0 ≤ d) (t1 : d < 4294967296) (k : p.Ok) (f : TFits p) (hO : Bts w (.slice ao p.opts.length co) p.opts) (hD : Bts w (.slice ad p.data.length cd) p.data) :
    Calls Try.prog 15 #[.int .u32 s, .int .u32 d, pcV p (.slice ao p.opts.length co) (.slice ad p.data.length cd)] w fun e w' =>
      ∃ v, e = .returned (.tuple #[v, .int .i64 0]) ∧ Bts w' v (builtT s d p) ∧ Below w.heap.size w w' := by
  have g0 : inBb p.src 65535 = true := decide_eq_true f.arg.src
  have g1 : inBb p.dst 65535 = true := decide_eq_true f.arg.dst
  have g2 : inBb p.window 65535 = true := decide_eq_true f.arg.window
  have g3 : inBb p.urgent 65535 = true := decide_eq_true f.arg.urgent
  have g4 : inBb p.flags 255 = true := decide_eq_true f.arg.flags
  have HF : Hid (TFits p) := f
  have HK : Hid (p.Ok) := k
  have HX := rfix_list p f.arg.flags f.arg.o40
  have HFX : Hid (((((((((([] ++ bytesOfN 2 p.src) ++ bytesOfN 2 p.dst) ++ bytesOfN 4 p.seq) ++ bytesOfN 4 p.ack) ++ [(20 + (p.opts.length : Int)) / 4 * 16, p.flags]) ++ bytesOfN 2 p.window) ++ [0, 0]) ++ bytesOfN 2 p.urgent)) = fixT p 0) := HX
  obtain ⟨⟨⟨a0, a1⟩, ⟨b0, b1'⟩, ⟨c0, c1⟩, ⟨d0', d1'⟩, ⟨e0, e1⟩, o40, o4⟩, hall⟩ := f
  have k0 := k.seq0
  have k1 := k.seq1
  have k2 := k.ack0
  have k3 := k.ack1
  have g5 : ¬ (40 : Int) < (p.opts.length : Int) := by omega
  have g6 : (p.opts.length : Int) % 4 = 0 := by omega
  have g7 : ¬ 2028 - (20 + (p.opts.length : Int)) < (p.data.length : Int) := by omega
  clear HX k
  obtain ⟨oa, oc, ob, oof, hoe, ho2, ho3, ho4, ho5, ho6⟩ := hO
  simp only [Value.slice.injEq, true_and] at hoe
  obtain ⟨rfl, rfl⟩ := hoe
  obtain ⟨da, dc, db, dof, hde, hd2, hd3, hd4, hd5, hd6⟩ := hD
  simp only [Value.slice.injEq, true_and] at hde
  obtain ⟨rfl, rfl⟩ := hde
  go_enter Try.func15, Try.ntmps15
  go_wp2_with (first | (go_at_call 31; refine (rin_any _ _ _).mono ?_; rintro e w' ⟨rfl, rfl⟩))
  obtain ⟨w0, hw0⟩ : ∃ w0, w0 = w.alloc (.cells (pcC p (.slice ao p.opts.length co) (.slice ad p.data.length cd)) 29) := ⟨_, rfl⟩
  rw [← hw0]
  have hsz0 : w0.heap.size = w.heap.size + 1 := by rw [hw0]; simp
  have hbw0 : Below w.heap.size w w0 := by rw [hw0]; exact below_alloc _ _
  have HC : Hid (∀ (w' : World), Below (w.heap.size + 1) w0 w' → ∀ i v, (pcC p (.slice ao p.opts.length co) (.slice ad p.data.length cd))[i]? = some v → w'.cell? ⟨w.heap.size, i, none⟩ = some v) := by
    intro w' hb i v hv
    rw [hb.cell (by show w.heap.size < w.heap.size + 1; omega), hw0, World.cell?_alloc_mark w _ _ (0, 0) i]
    exact hv
  clear hw0
  refine (lay_any w0 (w.heap.size + 1) (.slice none 0 0) [] 2 2 p.src w0 (World.ownsRow_nil _ _ _ _) (by omega) (by simp) rfl (by decide) (Below.refl _ _)).mono ?_
  rintro e w1 ⟨v1, rfl, ho1, hb1, hz1⟩
  have d1 : w1.cell? ⟨w.heap.size, 1, none⟩ = some (.int .i64 p.dst) := HC.out w1 hb1 1 _ rfl
  go_wp2_with fail
  refine (lay_any w1 (w.heap.size + 1) v1 _ 2 2 p.dst w0 ho1 hz1 (by simp [bytesOfN]) rfl (by decide) hb1).mono ?_
  rintro e w2' ⟨v2, rfl, ho2', hb2, hz2⟩
  clear ho1 hb1 hz1 d1
  have d2 : w2'.cell? ⟨w.heap.size, 2, none⟩ = some (.int .u32 p.seq) := HC.out w2' hb2 2 _ rfl
  go_wp2_with fail
  refine (lay_any w2' (w.heap.size + 1) v2 _ 4 4 p.seq w0 ho2' hz2 (by simp [bytesOfN]) rfl (by decide) hb2).mono ?_
  rintro e w3 ⟨v3, rfl, ho3', hb3, hz3⟩
  clear ho2' hb2 hz2 d2
  have d3 : w3.cell? ⟨w.heap.size, 3, none⟩ = some (.int .u32 p.ack) := HC.out w3 hb3 3 _ rfl
  go_wp2_with fail
  refine (lay_any w3 (w.heap.size + 1) v3 _ 4 4 p.ack w0 ho3' hz3 (by simp [bytesOfN]) rfl (by decide) hb3).mono ?_
  rintro e w4 ⟨v4, rfl, ho4', hb4, hz4⟩
  clear ho3' hb3 hz3 d3
  have d4 : w4.cell? ⟨w.heap.size, 4, none⟩ = some (.int .i64 p.flags) := HC.out w4 hb4 4 _ rfl
  obtain ⟨v5, w5, hrun5, ho5', hb5'⟩ := append_bts (w4.alloc (.cells #[.int .u8 ((20 + (p.opts.length : Int)) / 4 * 16), .int .u8 p.flags] 5)) (w.heap.size + 1) v4 _ _ _ (World.ownsRow.alloc ho4' _) ((owns_lit2 w4 ((20 + (p.opts.length : Int)) / 4 * 16) p.flags).bts (by intro z hz; simp at hz; rcases hz with rfl | rfl <;> omega)) (by simp; omega) (by simp [bytesOfN])
  have hb5 : Below (w.heap.size + 1) w0 w5 := (hb4.alloc hz4 _).trans hb5'
  have hz5 : w.heap.size + 1 ≤ w5.heap.size := by have := hb5'.size; simp only [World.size_alloc] at this; omega
  clear ho4' hb4 hb5'
  have d5 : w5.cell? ⟨w.heap.size, 5, none⟩ = some (.int .i64 p.window) := HC.out w5 hb5 5 _ rfl
  go_wp2_with (at_builtin; refine Lib.wpList_append_run_sl _ rfl _ _ 23 rfl _ _ rfl rfl hrun5 ?_)
  clear hrun5 hz4 d4
  refine (lay_any w5 (w.heap.size + 1) v5 _ 2 2 p.window w0 ho5' hz5 (by simp [bytesOfN]) rfl (by decide) hb5).mono ?_
  rintro e w6 ⟨v6, rfl, ho6', hb6, hz6⟩
  clear ho5' hb5 hz5 d5
  obtain ⟨v7, w7, hrun7, ho7', hb7'⟩ := append_bts (w6.alloc (.cells #[.int .u8 0, .int .u8 0] 5)) (w.heap.size + 1) v6 _ _ _ (World.ownsRow.alloc ho6' _) ((owns_lit2 w6 0 0).bts (by intro z hz; simp at hz; omega)) (by simp; omega) (by simp [bytesOfN])
  have hb7 : Below (w.heap.size + 1) w0 w7 := (hb6.alloc hz6 _).trans hb7'
  have hz7 : w.heap.size + 1 ≤ w7.heap.size := by have := hb7'.size; simp only [World.size_alloc] at this; omega
  clear ho6' hb6 hb7'
  have d6 : w7.cell? ⟨w.heap.size, 6, none⟩ = some (.int .i64 p.urgent) := HC.out w7 hb7 6 _ rfl
  go_wp2_with (at_builtin; refine Lib.wpList_append_run_sl _ rfl _ _ 23 rfl _ _ rfl rfl hrun7 ?_)
  clear hrun7 hz6
  refine (lay_any w7 (w.heap.size + 1) v7 _ 2 2 p.urgent w0 ho7' hz7 (by simp [bytesOfN]) rfl (by decide) hb7).mono ?_
  rintro e w8 ⟨v8, rfl, ho8', hb8, hz8⟩
  rw [HFX.out] at ho8'
  clear ho7' hb7 hz7 d6
  go_wp2
  go_loopw [9, 10] (fun v i wr => ∃ t : Nat, t ≤ p.opts.length ∧ i = .int .i64 (t : Int) ∧ Owns wr (w.heap.size + 1) v (fixT p 0 ++ p.opts.take t) ∧ Below (w.heap.size + 1) w0 wr ∧ w.heap.size + 1 ≤ wr.heap.size) (fun _ i _ => p.opts.length - (intOf i).toNat)
  case atStart => exact ⟨0, Nat.zero_le _, rfl, by simpa using ho8', hb8, hz8⟩
  case round =>
    obtain ⟨t, ht, rfl, hown, hbel, hsz⟩ := hrel
    clear ho8' hb8 hz8
    have d7 : wr.cell? ⟨w.heap.size, 7, none⟩ = some (.slice ao p.opts.length co) := HC.out wr hbel 7 _ rfl
    by_cases hlt : t < p.opts.length
    · rcases ho5 with rfl | hnil
      case inr => rw [hnil] at hlt; simp at hlt
      have hbwr : Below w.heap.size w wr := hbw0.trans (hbel.mono (by omega))
      have hcell : wr.cell? ⟨ob, oof + t, none⟩ = some (.int .u8 (p.opts.getD t 0)) := cell_later hbwr (ho6 t hlt)
      have hts : Hid (fixT p 0 ++ p.opts.take (t + 1) = (fixT p 0 ++ p.opts.take t) ++ [p.opts.getD t 0]) := by show _ = _; rw [take_snoc p.opts t hlt, List.append_assoc]
      obtain ⟨v', w1', hrun, ho, hb⟩ := append_one wr (w.heap.size + 1) _ _ (p.opts.getD t 0) hown hsz (by rw [List.length_append, List.length_take, fixT_length]; omega)
      have htb : (t : Int) < (p.opts.length : Int) := by omega
      have R1 : Owns w1' (w.heap.size + 1) v' (fixT p 0 ++ p.opts.take (t + 1)) := by rw [hts.out]; exact ho
      have R2 := hbel.trans hb
      have R3 := Nat.le_trans hsz hb.size
      clear hts ho hb
      generalize p.opts.getD t 0 = c at *
      go_wp2_with (at_builtin; refine Lib.wpList_append_run_sl _ rfl _ _ 23 rfl _ _ rfl rfl hrun ?_)
      go_roundw
      case rel => exact ⟨t + 1, by omega, by go_num, R1, R2, R3⟩
      case measure => simp [intOf]; omega
    · have hte : t = p.opts.length := by omega
      subst hte
      rw [List.take_length] at hown
      clear ho2 ho3 ho4 ho5 ho6
      obtain ⟨w9, rfl⟩ : ∃ w9, w9 = wr := ⟨_, rfl⟩
      obtain ⟨v9, rfl⟩ : ∃ v9, v9 = u9 := ⟨_, rfl⟩
      have HO : Hid (Owns w9 (w.heap.size + 1) v9 (fixT p 0 ++ p.opts)) := hown
      have HB9 : Hid (Below (w.heap.size + 1) w0 w9) := hbel
      have HZ9 : Hid (w.heap.size + 1 ≤ w9.heap.size) := hsz
      go_wp2
      clear hown hbel hsz d7
      go_loopw [9, 11] (fun v i wr => ∃ t : Nat, t ≤ p.data.length ∧ i = .int .i64 (t : Int) ∧ Owns wr (w.heap.size + 1) v ((fixT p 0 ++ p.opts) ++ p.data.take t) ∧ Below (w.heap.size + 1) w0 wr ∧ w.heap.size + 1 ≤ wr.heap.size) (fun _ i _ => p.data.length - (intOf i).toNat)
      case atStart => exact ⟨0, Nat.zero_le _, rfl, by simpa using HO.out, HB9.out, HZ9.out⟩
      case round =>
        obtain ⟨t, ht, rfl, hown, hbel, hsz⟩ := hrel
        clear HO HB9 HZ9
        have d8 : wr.cell? ⟨w.heap.size, 8, none⟩ = some (.slice ad p.data.length cd) := HC.out wr hbel 8 _ rfl
        by_cases hlt : t < p.data.length
        · rcases hd5 with rfl | hnil
          case inr => rw [hnil] at hlt; simp at hlt
          have hbwr : Below w.heap.size w wr := hbw0.trans (hbel.mono (by omega))
          have hcell : wr.cell? ⟨db, dof + t, none⟩ = some (.int .u8 (p.data.getD t 0)) := cell_later hbwr (hd6 t hlt)
          have hts : Hid ((fixT p 0 ++ p.opts) ++ p.data.take (t + 1) = ((fixT p 0 ++ p.opts) ++ p.data.take t) ++ [p.data.getD t 0]) := by show _ = _; rw [take_snoc p.data t hlt]; simp only [List.append_assoc]
          obtain ⟨v', w1', hrun, ho, hb⟩ := append_one wr (w.heap.size + 1) _ _ (p.data.getD t 0) hown hsz (by rw [List.length_append, List.length_take, List.length_append, fixT_length]; omega)
          have htb : (t : Int) < (p.data.length : Int) := by omega
          have R1 : Owns w1' (w.heap.size + 1) v' ((fixT p 0 ++ p.opts) ++ p.data.take (t + 1)) := by rw [hts.out]; exact ho
          have R2 := hbel.trans hb
          have R3 := Nat.le_trans hsz hb.size
          clear hts ho hb
          generalize p.data.getD t 0 = c at *
          go_wp2_with (at_builtin; refine Lib.wpList_append_run_sl _ rfl _ _ 23 rfl _ _ rfl rfl hrun ?_)
          go_roundw
          case rel => exact ⟨t + 1, by omega, by go_num, R1, R2, R3⟩
          case measure => simp [intOf]; omega
        · have hte : t = p.data.length := by omega
          subst hte
          rw [List.take_length] at hown
          have hbytes : isBytes ((fixT p 0 ++ p.opts) ++ p.data) := isBytes_append (isBytes_append (fixT_bytes p 0) HK.out.opts) HK.out.data
          have hbwr : Below w.heap.size w wr := hbw0.trans (hbel.mono (by omega))
          obtain ⟨G, cg, rfl, hH⟩ := holds8_of_owns hown (len := 20 + p.opts.length + p.data.length) (by rw [List.length_append, List.length_append, fixT_length]) (by omega)
          have hBo := hown.bts hbytes
          clear hown hbytes hd2 hd3 hd4 hd5 hd6
          go_wp2_with fail
          clear d8
          refine (rpseudo_any s d 6 (20 + (p.opts.length : Int) + (p.data.length : Int)) _ s0 s1 t0 t1).mono ?_
          rintro e x5 ⟨y5, rfl, hP, hbp⟩
          have hBo5 := hBo.later hbp
          have hH5 := hH.later hbp
          obtain ⟨a5, n5, c5, rfl⟩ := hP.shape
          go_wp2_with fail
          refine (rsum2 x5 _ _ _ (pseudoB s d 6 (20 + (p.opts.length : Int) + (p.data.length : Int))) ((fixT p 0 ++ p.opts) ++ p.data) 23 (by simp) hP hBo5 (by rw [pseudo_length, List.length_append, List.length_append, fixT_length]; omega)).mono ?_
          rintro e x6 ⟨rfl, rfl⟩
          have bx := below_alloc x5 (.cells #[.slice a5 n5 c5, .slice (some ⟨G, 0, none⟩) (20 + p.opts.length + p.data.length) cg] 23)
          have hH6 := hH5.later bx
          have hb6 : Below (w.heap.size + 1) w0 _ := hbel.trans ((below_trans hbp bx).mono hsz)
          generalize (x5.alloc (.cells #[.slice a5 n5 c5, .slice (some ⟨G, 0, none⟩) (20 + p.opts.length + p.data.length) cg] 23)) = x6 at *
          have HFE : Hid (checkT s d p = 65535 - fold16 (ws (pseudoB s d 6 (20 + (p.opts.length : Int) + (p.data.length : Int)) ++ ((fixT p 0 ++ p.opts) ++ p.data)))) := by
            show _ = _
            unfold checkT
            rw [turn_fold]
            rfl
          have hS := fold16_bd (ws (pseudoB s d 6 (20 + (p.opts.length : Int) + (p.data.length : Int)) ++ ((fixT p 0 ++ p.opts) ++ p.data)))
          generalize fold16 (ws (pseudoB s d 6 (20 + (p.opts.length : Int) + (p.data.length : Int)) ++ ((fixT p 0 ++ p.opts) ++ p.data))) = S at *
          clear hP hBo hBo5 hH hH5 hbp bx hbwr hbel
          have hG := hH6.base
          have c6 := hH6.cell 16 (by omega)
          have c7 := hH6.cell 17 (by omega)
          have f6 := hH6.2.frozenAt 16
          have f7 := hH6.2.frozenAt 17
          have i6 : (16 : Int) < 20 + (p.opts.length : Int) + (p.data.length : Int) := by omega
          have i7 : (17 : Int) < 20 + (p.opts.length : Int) + (p.data.length : Int) := by omega
          obtain ⟨S0, S1⟩ := hS
          have hC0 : 0 ≤ 65535 - S := by omega
          have hHf := (hH6.store 16 ((65535 - S) / 256)).store 17 ((65535 - S) % 256)
          have hbf : Below (w.heap.size + 1) w0 ((x6.setCell ⟨G, 16, none⟩ (.int .u8 ((65535 - S) / 256))).setCell ⟨G, 17, none⟩ (.int .u8 ((65535 - S) % 256))) := (hb6.setCell (by exact hG) _).setCell (by exact hG) _
          have hBf : Bts ((x6.setCell ⟨G, 16, none⟩ (.int .u8 ((65535 - S) / 256))).setCell ⟨G, 17, none⟩ (.int .u8 ((65535 - S) % 256))) (.slice (some ⟨G, 0, none⟩) (20 + p.opts.length + p.data.length) cg) (builtT s d p) := by
            rw [List.append_assoc, set1617 p (65535 - S) hC0 (by omega) (p.opts ++ p.data)] at hHf
            have e : builtT s d p = fixT p (65535 - S) ++ (p.opts ++ p.data) := by unfold builtT headT; rw [HFE.out, List.append_assoc]
            rw [e]
            exact hHf.owns.bts (isBytes_append (fixT_bytes p _) (isBytes_append HK.out.opts HK.out.data))
          clear hH6 hHf HFE
          go_wp2
          go_ret2
          exact ⟨_, rfl, hBf, hbw0.trans (hbf.mono (by omega))⟩
end Go.Proofs.Ytgeeoggbijimoaa
