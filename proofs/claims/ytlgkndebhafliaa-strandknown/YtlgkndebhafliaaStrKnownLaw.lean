/- StrandKnown: chapter 8's examples. -/
import Derived.Test.YtlgkndebhafliaaStrNum
import Derived.Test.YtlgkndebhafliaaRows
set_option maxRecDepth 100000
namespace Go.Proofs.Ytlgkndebhafliaa.strandKnown
open Go.ChangeShapes Go.WideShapes Go.ChangeAt Go.RowKit

def Z56 : List Int := zeros 56
@[irreducible] def zRow (n : Nat) : Array Value := madeCells #[.int .u8 0] n

theorem zRow_list (n : Nat) : (zRow n).toList = bytesV (zeros n) := by
  have := made8 n
  rw [Nat.mul_one] at this
  unfold zRow
  exact this

theorem run_make_z (n : Nat) (h : n ≤ 1000) (w : World) : (Instr.makeSlice 23 (.int .i64 n) (.int .i64 n)).run Try.prog w = .ok (.slice (some ⟨w.heap.size, 0, none⟩) n n) (w.alloc (.cells (zRow n) 5)) := by
  have := run_make_row' (P := Try.prog) 23 5 (.int .u8 0) 1 Try.underlying23 info5 rfl .i64 .i64 n (by omega) (by omega) w
  rw [this]
  unfold zRow
  rfl

theorem z_bts (w : World) (n : Nat) (h : n ≤ 1000) : Bts (w.alloc (.cells (zRow n) 5)) (.slice (some ⟨w.heap.size, 0, none⟩) n n) (zeros n) := by
  have hb := blk_new w (zRow n) 5
  rw [zRow_list] at hb
  have hl : (zeros n).length = n := by simp [zeros]
  have := blk_bts hb (isBytes_zeros n) (by rw [hl]; unfold maxLen; omega)
  rwa [hl] at this

theorem crc_a : crcV [97] = 3904355907 := by decide +kernel
theorem frame_a : frameB [97] = [90, 1, 97, 232, 183, 190, 67, 165] := by
  unfold frameB
  rw [crc_a]
  rfl

theorem app1 : appE (St.new 3) ⟨0, 0, []⟩ [97] = 0 ∧ appT (St.new 3) ⟨0, 0, []⟩ [97] = ⟨0, 8, [(0, [97])]⟩ := ⟨rfl, rfl⟩

theorem app2 {s : St} (hn : s.n = 3) (ho : s.out = 0) : appE s ⟨0, 8, [(0, [97])]⟩ Z56 = 0 ∧ (appT s ⟨0, 8, [(0, [97])]⟩ Z56).pos = 1 ∧ (appT s ⟨0, 8, [(0, [97])]⟩ Z56).used = 63 := by
  have hE : frameE Z56 = 0 := rfl
  have hf : Sd.fit ⟨0, 8, [(0, [97])]⟩ Z56 = ⟨1, 0, [(0, [97])]⟩ := rfl
  have h0 : ¬ frameE Z56 ≠ 0 := by rw [hE]; decide
  have e0 : errC 0 = 0 := rfl
  refine ⟨?_, ?_⟩
  · unfold appE
    rw [if_neg h0, hf, hn, if_neg (by decide), ho]
    rfl
  · unfold appT
    rw [if_neg h0, hf, hn, if_neg (by decide), ho, if_pos e0]
    exact ⟨rfl, rfl⟩

set_option maxHeartbeats 8000000 in
theorem walk (w : World) : Calls Try.prog 3 #[] w fun e w' => e = .returned (.bool true) ∧ Below w.heap.size w w' := by
  have hcv := conv8
  have hmz : ∀ w, (Instr.makeSlice 23 (.int .i64 56) (.int .i64 56)).run Try.prog w = .ok (.slice (some ⟨w.heap.size, 0, none⟩) 56 56) (w.alloc (.cells (zRow 56) 5)) := run_make_z 56 (by decide)
  have hmz2 : ∀ w, (Instr.makeSlice 23 (.int .i64 57) (.int .i64 57)).run Try.prog w = .ok (.slice (some ⟨w.heap.size, 0, none⟩) 57 57) (w.alloc (.cells (zRow 57) 5)) := run_make_z 57 (by decide)
  have hbA : isBytes [97] := by intro z hz; simp at hz; omega
  go_enter Try.func3, Try.ntmps3
  go_wp2_with (go_at_call 9; refine (awake8_ok _).mono ?_; rintro e w1 ⟨rfl, hB1⟩)
  have hH2 := held_lit w1 (fun _ => 0) [97] hbA (by decide) (1, 2)
  have hB2 : Below w.heap.size w (w1.alloc (.cells (bytesV [97]).toArray 5 (1, 2))) := hB1.trans ((below_alloc w1 _).mono hB1.size)
  refine (frame_ok (w1.alloc (.cells (bytesV [97]).toArray 5 (1, 2))) _ [97] hH2.1 (by decide) (by decide)).mono ?_
  rintro e w3 ⟨G, rfl, hF3, hB3⟩
  have hB03 := hB2.trans (hB3.mono hB2.size)
  have hf3 : Bts w3 (.slice (some ⟨G, 0, none⟩) 8 8) [90, 1, 97, 232, 183, 190, 67, 165] := by
    rw [frame_a] at hF3
    exact hF3.owns.bts (by intro z hz; simp at hz; omega)
  have hg3 := held0 hf3 (by simp)
  clear hf3 hH2 hB2 hB3 hF3 hB1
  go_wp2_with fail
  refine (both_ok w3 (fun _ => 0) w.heap.size 1 3 3 3 rfl hB03.size (by omega) (by omega)).mono ?_
  rintro e w4 ⟨p, pm, tag4, rfl, hP4, _, hT4, hB4⟩
  have hB04 := hB03.trans (hB4.mono hB03.size)
  have hg4 : Held w4 tag4 _ _ := hg3.grow hB4 hT4
  clear hg3 hB03 hB4 hT4
  go_wp2_with fail
  have HO := open_ok w4 tag4 w.heap.size 1 2 (by omega) _ p hP4 hB04.size
  rw [openT_new] at HO
  refine HO.mono ?_
  rintro e w5 ⟨q, tag5, rfl, hQ5, hT5, hB5⟩
  have hP5 : PD w5 tag5 w.heap.size 1 (St.new 3) p := hP4.keep (fun k hk _ => hB5.block k hk) hT5
  have hB05 := hB04.trans (hB5.mono hB04.size)
  have hg5 : Held w5 tag5 _ _ := hg4.grow hB5 hT5
  clear hg4 hP4 hB04 hB5 hT5 HO
  have hok := (openT_ok (St.ok_new (n := 3) (by omega) (by omega))).1
  rw [openT_new] at hok
  have hba : Below w5.heap.size w5 (w5.alloc (.cells (bytesV [97]).toArray 5 (1, 2))) := below_alloc _ _
  have HA := append_any8 (w5.alloc (.cells (bytesV [97]).toArray 5 (1, 2))) (clip tag5 w5.heap.size) w.heap.size 1 2 (by omega) (by omega) (by omega) (St.new 3) p (hP5.clip hba) ⟨0, 0, []⟩ q p.D q.S rfl rfl (hQ5.clip hba) (Nat.le_trans hB05.size hba.size) hok _ [97] (held_lit w5 tag5 [97] hbA (by decide) (1, 2)).1 (fun _ => held_lit w5 tag5 [97] hbA (by decide) (1, 2)) (by decide) (by decide) (by decide) (by decide)
  rw [app1.1] at HA
  have hB06 := hB05.trans (hba.mono hB05.size)
  have hg6 := hg5.alloc hba
  clear hg5 hP5 hQ5
  go_wp2_with fail
  refine HA.mono ?_
  rintro e w7 ⟨rfl, p7, q7, tag7, hD7, hS7, hP7, hQ7, hSt7⟩
  rw [app1.2] at hQ7
  have hg7 := hg6.two hSt7 (by omega) (by omega)
  have hB07 := hB06.trans hSt7.below
  have hfew : Few (appS (St.new 3) ⟨0, 0, []⟩ [97]) 3 1 := (few_new 3 0).app _ _
  have hou : (appS (St.new 3) ⟨0, 0, []⟩ [97]).outs.length ≤ 0 := outs_app _ _ _
  have hok7 : Sd.Ok ⟨0, 8, [(0, [97])]⟩ 3 := by
    have := (appT_ok (s := St.new 3) hok [97] hbA).1
    rw [app1.2] at this
    exact this
  obtain ⟨a21, a22, a23⟩ := app2 hfew.n (out_nil hou)
  have hok8 := (appT_ok (s := appS (St.new 3) ⟨0, 0, []⟩ [97]) (by rw [hfew.n]; exact hok7) Z56 (isBytes_zeros 56)).1
  generalize appS (St.new 3) ⟨0, 0, []⟩ [97] = s7 at *
  have hbz : Below w7.heap.size w7 (w7.alloc (.cells (zRow 56) 5)) := below_alloc _ _
  have hz7 : Held (w7.alloc (.cells (zRow 56) 5)) (clip tag7 w7.heap.size) (.slice (some ⟨w7.heap.size, 0, none⟩) 56 56) Z56 := held_new (z_bts w7 56 (by decide)) (fun g hg => by simp [Value.ownBlock] at hg; subst hg; simp)
  have HA2 := append_any8 (w7.alloc (.cells (zRow 56) 5)) (clip tag7 w7.heap.size) w.heap.size 1 2 (by omega) (by omega) (by omega) s7 p7 (hP7.clip hbz) ⟨0, 8, [(0, [97])]⟩ q7 p.D q.S hD7 hS7 (hQ7.clip hbz) (Nat.le_trans hB07.size hbz.size) (by rw [hfew.n]; exact hok7) _ Z56 hz7.1 (fun _ => hz7) (by have := hfew.ops; omega) (by omega) (by have := hfew.sin; omega) (by decide)
  rw [a21] at HA2
  have hg8 := hg7.alloc hbz
  have hB08 := hB07.trans (hbz.mono hB07.size)
  clear HA hz7 hP7 hQ7 hSt7 hB06 hg6 hg7 hbz hba hok hok7
  go_wp2_with fail
  refine HA2.mono ?_
  rintro e w9 ⟨rfl, p9, q9, tag9, _, hS9, _, hQ9, hSt9⟩
  have hg9 := hg8.two hSt9 (by omega) (by omega)
  have hB09 := hB08.trans hSt9.below
  have HPl := place_ok w9 tag9 w.heap.size 2 p.D _ q9 hQ9
  rw [hS9, a22, a23] at HPl
  clear HA2 hSt9 hB08 hg8 hB07 hB05
  go_wp2_with fail
  refine HPl.mono ?_
  rintro e w10 ⟨rfl, hB10⟩
  have hf10 := hg9.1.later hB10
  have hB010 := hB09.trans (hB10.mono hB09.size)
  clear HPl hQ9 hg9
  go_wp2_with fail
  refine (frame_no w10 (.slice none 0 0) [] (bts_nil w10) (by decide)).mono ?_
  rintro e w11 ⟨rfl, hw11⟩
  rw [hw11]
  clear hw11
  have e1 : frameE [] = 1 := rfl
  have e3 : frameE (zeros 57) = 3 := rfl
  rw [e1]
  have hb57 : Below w10.heap.size w10 (w10.alloc (.cells (zRow 57) 5)) := below_alloc _ _
  have HF57 := frame_no (w10.alloc (.cells (zRow 57) 5)) _ (zeros 57) (z_bts w10 57 (by decide)) (by rw [e3]; decide)
  rw [e3] at HF57
  have hf12 := hf10.later hb57
  have HB012 : Hid (Below w.heap.size w (w10.alloc (.cells (zRow 57) 5))) := hB010.trans (hb57.mono hB010.size)
  clear e1 e3 hb57 hf10 hB010 hB09 hB10
  go_wp2_with fail
  refine HF57.mono ?_
  rintro e w13 ⟨rfl, hx⟩
  rw [hx]
  clear hx HF57
  generalize w10.alloc (.cells (zRow 57) 5) = w14 at *
  have hL8 : isBytes [90, 1, 97, 232, 183, 190, 67, 165] := by intro z hz; simp at hz; omega
  have hb15 : Below w14.heap.size w14 (w14.alloc (.cells (bytesV [90, 1, 97, 232, 183, 190, 67, 165]).toArray 5)) := below_alloc _ _
  have hbl := blk_new w14 (bytesV [90, 1, 97, 232, 183, 190, 67, 165]).toArray 5
  have HSm := same_one (w14.alloc (.cells (bytesV [90, 1, 97, 232, 183, 190, 67, 165]).toArray 5)) _ _ _ _ (hf12.later hb15) (blk_bts hbl hL8 (by decide))
  rw [sameB_self] at HSm
  have HBF : Hid (Below w.heap.size w (w14.alloc (.cells (bytesV [90, 1, 97, 232, 183, 190, 67, 165]).toArray 5))) := HB012.out.trans (hb15.mono HB012.out.size)
  clear hf12 hb15 hbl
  go_wp2_with fail
  refine HSm.mono ?_
  rintro e w16 ⟨rfl, nq, hx⟩
  have HX : Hid (w16 = (w14.alloc (.cells (bytesV [90, 1, 97, 232, 183, 190, 67, 165]).toArray 5)).drewN nq) := hx
  clear hx
  go_wp2
  go_ret
  exact ⟨rfl, by rw [HX.out]; exact HBF.out.trans ((below_drewN _ _).mono HBF.out.size)⟩

set_option maxRecDepth 100000 in
theorem lifted (os : Os) (started : os.Started) (H : Type) (enc : TypeId × Value → H) :
    ReturnsInHanded {} Try.checked os 3 .any (Rows.strandKnownSpec.pre6 enc Try.prog Try.f3 Rows.strandKnownRow.domain false) (Rows.strandKnownSpec.post enc Try.prog Try.f3 false true false false) := by
  refine returnsInHanded_of_change_sized (C := Try.checked) own started (by kernel_rfl) Try.func3
    (ChangeSpec.witness6 (enc := enc) (C := Try.checked) false ⟨#[], #[], []⟩ 8 (by kernel_rfl) (by kernel_rfl) (by kernel_rfl) (by kernel_rfl)) ?_
  intro W base args ds gs before hval0 hW hcnd hsz0 _
  have hval : ∀ (j : Nat) t v, Try.f3.params[j]? = some t → args[j]? = some v → Value.okWide Try.prog W .any base t v := hval0
  have hsz : ∀ n ∈ DataW.weightsEach Try.prog (Try.f3.params.toList ++ Rows.strandKnownSpec.plain.varTypes Try.prog) (ds ++ gs), n ≤ reachBytes := fun n hn => by simpa using List.all_eq_true.1 hsz0 n hn
  have hW' := hW
  obtain ⟨p, q, hA0, hV, rfl, hfz, hnd⟩ := hW
  have hA : DataW.TrodAll enc Try.prog W 0 (fun _ => true) true Try.f3.params.toList args.toList ds p := hA0
  rw [Try.params3] at hA hval hsz
  obtain ⟨rfl, rfl, rfl⟩ := trodAll_none hA
  obtain ⟨rfl, rfl⟩ := trodVars_none hV
  clear hA0 hval0 hsz0 hsz
  refine (walk  W ).mono fun e W' ⟨he, bel⟩ => ?_
  subst he
  exact ⟨_, rfl, _, _, _, [], [], [], hW', trodAll_mk1 (shut_bool Try.underlying4 _), trodAll_mk0, rfl, bel.frame _, fun h => by cases h⟩

theorem over : Rows.strandKnownRow.holds Try.pinned (OpenSpec.ofChange Rows.strandKnownSpec) :=
  OpenClaim.holds_of_wide 3 Try.f3 rfl rfl rfl rfl rfl rfl rfl ⟨rfl, rfl, rfl, rfl, rfl⟩ rfl rfl rfl rfl rfl (by kernel_rfl) Try.func3 (by kernel_rfl)
    (of_decide_eq_true (by kernel_rfl)) (by unfold Func.isWrapper; first | (rw [if_pos (by decide +kernel)]; kernel_rfl) | (rw [if_neg (by decide +kernel)]; exact ⟨rfl, rfl⟩))
    (fun os started H enc _ => lifted os started H enc)

end Go.Proofs.Ytlgkndebhafliaa.strandKnown
namespace Go.Proofs.Ytlgkndebhafliaa
theorem strandKnown_holds : Rows.StrandKnownSaid := strandKnown.over
#print axioms strandKnown_holds
end Go.Proofs.Ytlgkndebhafliaa
