/- EntryEncodes: for all entries the call returns true: their bytes, or that they may not be. No condition. -/
import Derived.Test.YtgkppclnpjkeeaaEntAwake
import Derived.Test.YtgkppclnpjkeeaaEntREnc
import Derived.Test.YtgkppclnpjkeeaaRows
import Derived.Deep.RegionHeld3
set_option maxRecDepth 100000
namespace Go.Proofs.Ytgkppclnpjkeeaa.entryEncodes
open Go.ChangeShapes Go.WideShapes Go.ChangeAt Go.RowKit

/-- Encode and Check, whatever the entry, in one form. -/
theorem enc_any (e : En) (ho : e.Ok) :
    ∃ l, (∀ W, Calls Try.prog 10 #[enV e] W fun r w' => ∃ v, r = .returned (.tuple #[v, .int .i64 (checkE e)]) ∧ Owns w' W.heap.size v l ∧ Below W.heap.size W w') ∧
      (∀ W, Calls Try.prog 11 #[enV e] W fun r w' => ∃ v, r = .returned (.tuple #[v, .int .i64 (checkE e)]) ∧ Owns w' W.heap.size v l ∧ Below W.heap.size W w') ∧ isBytes l := by
  by_cases h : e.May
  · have hE : checkE e = 0 := by unfold checkE; rw [mayB_true h]; rfl
    rw [hE]
    exact ⟨bytesE e, fun W => encode_ok e W h ho, fun W => rencode_ok e W h ho, bytesE_bytes e⟩
  · have hE : checkE e = 1 := by unfold checkE; rw [mayB_false h]; rfl
    rw [hE]
    refine ⟨[], fun W => (encode_no e W h).mono ?_, fun W => (rencode_no e W h).mono ?_, by intro z hz; cases hz⟩
    · rintro r w' ⟨rfl, hb⟩; exact ⟨_, rfl, World.ownsRow_nil _ _ _ _, hb⟩
    · rintro r w' ⟨rfl, hb⟩; exact ⟨_, rfl, World.ownsRow_nil _ _ _ _, hb⟩

set_option maxHeartbeats 4000000 in
theorem walk_e (k t s a b : Int) (w : World) (ho : En.Ok ⟨k, t, s, a, b⟩) :
    Calls Try.prog 4 #[enV ⟨k, t, s, a, b⟩] w fun e w' => e = .returned (.bool true) ∧ Below w.heap.size w w' := by
  obtain ⟨l, HE, HR, hl⟩ := enc_any ⟨k, t, s, a, b⟩ ho
  have HC := fun W => check_any ⟨k, t, s, a, b⟩ W
  have HK := fun W => rcheck_any ⟨k, t, s, a, b⟩ W
  have HB : Hid (isBytes l) := hl
  have KC : Hid (∀ W, Below (w.alloc (.cells (enC ⟨k, t, s, a, b⟩) 25)).heap.size (w.alloc (.cells (enC ⟨k, t, s, a, b⟩) 25)) W → W.cell? ⟨w.heap.size, 0, none⟩ = some (.int .i64 k) ∧ W.cell? ⟨w.heap.size, 1, none⟩ = some (.int .i64 t) ∧ W.cell? ⟨w.heap.size, 2, none⟩ = some (.int .u32 s) ∧ W.cell? ⟨w.heap.size, 3, none⟩ = some (.int .u32 a) ∧ W.cell? ⟨w.heap.size, 4, none⟩ = some (.int .i64 b)) := by
    intro W hW
    exact ⟨cell_later hW (by rw [World.cell?_alloc_mark w _ _ (0, 0) 0]; rfl), cell_later hW (by rw [World.cell?_alloc_mark w _ _ (0, 0) 1]; rfl), cell_later hW (by rw [World.cell?_alloc_mark w _ _ (0, 0) 2]; rfl), cell_later hW (by rw [World.cell?_alloc_mark w _ _ (0, 0) 3]; rfl), cell_later hW (by rw [World.cell?_alloc_mark w _ _ (0, 0) 4]; rfl)⟩
  generalize checkE ⟨k, t, s, a, b⟩ = y at *
  clear ho hl
  go_enter Try.func4, Try.ntmps4
  go_wp2_with fail
  refine (awake9_any _).mono ?_
  rintro e w1 ⟨rfl, hb1⟩
  obtain ⟨d0, d1, d2, d3, d4⟩ := KC.out w1 hb1
  go_wp2_with fail
  refine (HE _).mono ?_
  rintro e w2 ⟨v2, rfl, hO2, hb2⟩
  have hx2 := below_trans hb1 hb2
  clear d0 d1 d2 d3 d4 hb1
  obtain ⟨d0, d1, d2, d3, d4⟩ := KC.out w2 hx2
  go_wp2_with fail
  refine (HR _).mono ?_
  rintro e w3 ⟨v3, rfl, hO3, hb3⟩
  have hx3 := below_trans hx2 hb3
  have hdr : Below w3.heap.size w3 w3.drew := (Below.refl _ _).drew
  have HS := same_e w3.drew v2 v3 l (((hO2.bts HB.out).later hb3).later hdr) ((hO3.bts HB.out).later hdr)
  obtain ⟨a2, c2, rfl⟩ := owns_shape hO2
  obtain ⟨a3, c3, rfl⟩ := owns_shape hO3
  have HX3 : Hid (Below (w.alloc (.cells (enC ⟨k, t, s, a, b⟩) 25)).heap.size (w.alloc (.cells (enC ⟨k, t, s, a, b⟩) 25)) w3.drew) := hx3.drew
  generalize l.length = n at *
  have K3 := KC.out w3.drew HX3.out
  clear d0 d1 d2 d3 d4 hO2 hO3 hb2 hb3 hx2 hx3 HE HR hdr
  go_wp2_with fail
  go_region_held3 (fun w' => w'.cell? ⟨w.heap.size, 0, none⟩ = some (.int .i64 k) ∧ w'.cell? ⟨w.heap.size, 1, none⟩ = some (.int .i64 t) ∧ w'.cell? ⟨w.heap.size, 2, none⟩ = some (.int .u32 s) ∧ w'.cell? ⟨w.heap.size, 3, none⟩ = some (.int .u32 a) ∧ w'.cell? ⟨w.heap.size, 4, none⟩ = some (.int .i64 b))
    (first | (with_reducible exact K3) | (with_reducible exact K4) | (with_reducible exact K5) | (with_reducible exact K6))
    (first
      | (go_at_call 12; refine HS.mono ?_; rintro e w4 ⟨rfl, nq, hx4⟩; have HX4 : Hid (Below (w.alloc (.cells (enC ⟨k, t, s, a, b⟩) 25)).heap.size (w.alloc (.cells (enC ⟨k, t, s, a, b⟩) 25)) w4) := (by show Below _ _ _; rw [hx4]; exact HX3.out.trans ((draws_e w3.drew nq).mono HX3.out.size)); have K4 := KC.out w4 HX4.out; have HC4 := HC w4; clear hx4)
      | (go_at_call 13; refine HC4.mono ?_; rintro e w5 ⟨rfl, hb5⟩; have HX5 : Hid (Below (w.alloc (.cells (enC ⟨k, t, s, a, b⟩) 25)).heap.size (w.alloc (.cells (enC ⟨k, t, s, a, b⟩) 25)) w5) := HX4.out.trans (hb5.mono HX4.out.size); have K5 := KC.out w5 HX5.out; have HK5 := HK w5; clear hb5)
      | (go_at_call 14; refine HK5.mono ?_; rintro e w6 ⟨rfl, hb6⟩; have HX6 : Hid (Below (w.alloc (.cells (enC ⟨k, t, s, a, b⟩) 25)).heap.size (w.alloc (.cells (enC ⟨k, t, s, a, b⟩) 25)) w6) := HX5.out.trans (hb6.mono HX5.out.size); have K6 := KC.out w6 HX6.out; clear hb6))
  have HZ : Hid (Below w.heap.size w w6) := below_trans (below_alloc _ _) HX6.out
  clear K3 K4 K5 K6 HX3 HX4 HX5 HX6 HC4 HK5 HS HC HK KC
  go_wp2
  go_ret
  exact ⟨rfl, HZ.out⟩

theorem walk (v0 : Value) (w : World) (V0 : IsEn w v0) :
    Calls Try.prog 4 #[v0] w fun e w' => e = .returned (.bool true) ∧ Below w.heap.size w w' := by
  obtain ⟨⟨k, t, s, a, b⟩, rfl, ho⟩ := V0
  exact walk_e k t s a b w ho

set_option maxRecDepth 100000 in
theorem lifted (os : Os) (started : os.Started) (H : Type) (enc : TypeId × Value → H) :
    ReturnsInHanded {} Try.checked os 4 .any (Rows.entryEncodesSpec.pre6 enc Try.prog Try.f4 Rows.entryEncodesRow.domain false) (Rows.entryEncodesSpec.post enc Try.prog Try.f4 false true false false) := by
  refine returnsInHanded_of_change_sized (C := Try.checked) own started (by kernel_rfl) Try.func4
    (ChangeSpec.witness6 (enc := enc) (C := Try.checked) false ⟨#[], #[.agg #[.int .i64 0, .int .i64 0, .int .u32 0, .int .u32 0, .int .i64 0]], []⟩ 8 (by kernel_rfl) (by kernel_rfl) (by kernel_rfl) (by kernel_rfl)) ?_
  intro W base args ds gs before hval0 hW hcnd hsz0 _
  have hval : ∀ (j : Nat) t v, Try.f4.params[j]? = some t → args[j]? = some v → Value.okWide Try.prog W .any base t v := hval0
  have hsz : ∀ n ∈ DataW.weightsEach Try.prog (Try.f4.params.toList ++ Rows.entryEncodesSpec.plain.varTypes Try.prog) (ds ++ gs), n ≤ reachBytes := fun n hn => by simpa using List.all_eq_true.1 hsz0 n hn
  have hW' := hW
  obtain ⟨p, q, hA0, hV, rfl, hfz, hnd⟩ := hW
  have hA : DataW.TrodAll enc Try.prog W 0 (fun _ => true) true Try.f4.params.toList args.toList ds p := hA0
  rw [Try.params4] at hA hval hsz
  obtain ⟨v0, vs0, d0, ds0, p0, q0, hargs, rfl, rfl, h0, r0⟩ := trodAll_cons hA
  obtain ⟨rfl, rfl, rfl⟩ := trodAll_nil r0
  obtain rfl : args = #[v0] := by cases args; simp_all
  obtain ⟨rfl, rfl⟩ := trodVars_none hV
  have lt0 : ∀ x ∈ p0, x.block < W.heap.size := by obtain ⟨m, hm⟩ := h0; exact DataW.trod_lt m _ _ _ hm
  have V0 := viewEn (hval 0 25 v0 rfl rfl) h0 (fun n hn => hsz n (DataW.weights_mem_each (j := 0) rfl rfl n hn))
  clear hA0 hval0 hsz0 hsz
  refine (walk v0 W V0).mono fun e W' ⟨he, bel⟩ => ?_
  subst he
  exact ⟨_, rfl, _, _, _, [], _, [], hW', trodAll_mk1 (shut_bool Try.underlying4 _), (trodAll_cons_mk (Below.trod laidOut (by kernel_rfl) (of_decide_eq_true (by kernel_rfl)) h0 bel lt0) trodAll_mk0), rfl, bel.frame _, fun h => by cases h⟩

theorem over : Rows.entryEncodesRow.holds Try.pinned (OpenSpec.ofChange Rows.entryEncodesSpec) :=
  OpenClaim.holds_of_wide 4 Try.f4 rfl rfl rfl rfl rfl rfl rfl ⟨rfl, rfl, rfl, rfl, rfl⟩ rfl rfl rfl rfl rfl (by kernel_rfl) Try.func4 (by kernel_rfl)
    (of_decide_eq_true (by kernel_rfl)) (by unfold Func.isWrapper; first | (rw [if_pos (by decide +kernel)]; kernel_rfl) | (rw [if_neg (by decide +kernel)]; exact ⟨rfl, rfl⟩))
    (fun os started H enc _ => lifted os started H enc)

end Go.Proofs.Ytgkppclnpjkeeaa.entryEncodes
namespace Go.Proofs.Ytgkppclnpjkeeaa
theorem entryEncodes_holds : Rows.EntryEncodesSaid := entryEncodes.over
#print axioms entryEncodes_holds
end Go.Proofs.Ytgkppclnpjkeeaa
