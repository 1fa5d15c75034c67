/- EntryBack: for all entries the call returns true: what was written is read back. No condition. -/
import Derived.Test.YtgkppclnpjkeeaaEntAwake
import Derived.Test.YtgkppclnpjkeeaaRows
set_option maxRecDepth 100000
namespace Go.Proofs.Ytgkppclnpjkeeaa.entryBack
open Go.ChangeShapes Go.WideShapes Go.ChangeAt Go.RowKit

set_option maxHeartbeats 2000000 in
theorem walk_no (k t s a b : Int) (w : World) (h : ¬ En.May ⟨k, t, s, a, b⟩) :
    Calls Try.prog 6 #[enV ⟨k, t, s, a, b⟩] w fun e w' => e = .returned (.bool true) ∧ Below w.heap.size w w' := by
  have HE := fun W => encode_no ⟨k, t, s, a, b⟩ W h
  clear h
  go_enter Try.func6, Try.ntmps6
  go_wp2_with fail
  refine (awake9_any _).mono ?_
  rintro e w1 ⟨rfl, hb1⟩
  have d0 : w1.cell? ⟨w.heap.size, 0, none⟩ = some (.int .i64 k) := cell_later hb1 (by rw [World.cell?_alloc_mark w _ _ (0, 0) 0]; rfl)
  have d1 : w1.cell? ⟨w.heap.size, 1, none⟩ = some (.int .i64 t) := cell_later hb1 (by rw [World.cell?_alloc_mark w _ _ (0, 0) 1]; rfl)
  have d2 : w1.cell? ⟨w.heap.size, 2, none⟩ = some (.int .u32 s) := cell_later hb1 (by rw [World.cell?_alloc_mark w _ _ (0, 0) 2]; rfl)
  have d3 : w1.cell? ⟨w.heap.size, 3, none⟩ = some (.int .u32 a) := cell_later hb1 (by rw [World.cell?_alloc_mark w _ _ (0, 0) 3]; rfl)
  have d4 : w1.cell? ⟨w.heap.size, 4, none⟩ = some (.int .i64 b) := cell_later hb1 (by rw [World.cell?_alloc_mark w _ _ (0, 0) 4]; rfl)
  go_wp2_with fail
  refine (HE _).mono ?_
  rintro e w2 ⟨rfl, hb2⟩
  have HX : Hid (Below w.heap.size w w2) := below_trans (below_alloc _ _) (below_trans hb1 hb2)
  clear hb1 hb2 d0 d1 d2 d3 d4 HE
  go_wp2
  go_ret
  exact ⟨rfl, HX.out⟩

theorem bytesE_few (e : En) : (bytesE e).length ≤ 19 := by
  unfold bytesE
  split
  · simp [bigE_length]
  split <;> simp [bigE_length]

set_option maxHeartbeats 2000000 in
theorem walk_ok (k t s a b : Int) (w : World) (h : En.May ⟨k, t, s, a, b⟩) (ho : En.Ok ⟨k, t, s, a, b⟩) :
    Calls Try.prog 6 #[enV ⟨k, t, s, a, b⟩] w fun e w' => e = .returned (.bool true) ∧ Below w.heap.size w w' := by
  have HE := fun W => encode_ok ⟨k, t, s, a, b⟩ W h ho
  obtain ⟨e1, e2⟩ := entE_bytesE h ho
  have HB : Hid (isBytes (bytesE ⟨k, t, s, a, b⟩)) := bytesE_bytes _
  have HD := fun v W (hv : Bts W v (bytesE ⟨k, t, s, a, b⟩)) => decode_any v _ W hv
  rw [e1, e2] at HD
  have hfew := bytesE_few ⟨k, t, s, a, b⟩
  generalize bytesE ⟨k, t, s, a, b⟩ = l at *
  have hw : ((l.length : Int) ≤ 56) := by omega
  clear h ho e1 e2
  go_enter Try.func6, Try.ntmps6
  go_wp2_with fail
  refine (awake9_any _).mono ?_
  rintro e w1 ⟨rfl, hb1⟩
  have d0 : w1.cell? ⟨w.heap.size, 0, none⟩ = some (.int .i64 k) := cell_later hb1 (by rw [World.cell?_alloc_mark w _ _ (0, 0) 0]; rfl)
  have d1 : w1.cell? ⟨w.heap.size, 1, none⟩ = some (.int .i64 t) := cell_later hb1 (by rw [World.cell?_alloc_mark w _ _ (0, 0) 1]; rfl)
  have d2 : w1.cell? ⟨w.heap.size, 2, none⟩ = some (.int .u32 s) := cell_later hb1 (by rw [World.cell?_alloc_mark w _ _ (0, 0) 2]; rfl)
  have d3 : w1.cell? ⟨w.heap.size, 3, none⟩ = some (.int .u32 a) := cell_later hb1 (by rw [World.cell?_alloc_mark w _ _ (0, 0) 3]; rfl)
  have d4 : w1.cell? ⟨w.heap.size, 4, none⟩ = some (.int .i64 b) := cell_later hb1 (by rw [World.cell?_alloc_mark w _ _ (0, 0) 4]; rfl)
  go_wp2_with fail
  refine (HE _).mono ?_
  rintro e w2 ⟨v, rfl, hO, hb2⟩
  have hx2 := below_trans hb1 hb2
  have H2 := HD v w2 (hO.bts HB.out)
  obtain ⟨va, vc, rfl⟩ := owns_shape hO
  generalize l.length = n at *
  clear d0 d1 d2 d3 d4 hb1 hb2 HE HD hO
  go_wp2_with fail
  refine H2.mono ?_
  rintro e w3 ⟨rfl, hb3⟩
  have hx3 := below_trans hx2 hb3
  have d0 : w3.cell? ⟨w.heap.size, 0, none⟩ = some (.int .i64 k) := cell_later hx3 (by rw [World.cell?_alloc_mark w _ _ (0, 0) 0]; rfl)
  have d1 : w3.cell? ⟨w.heap.size, 1, none⟩ = some (.int .i64 t) := cell_later hx3 (by rw [World.cell?_alloc_mark w _ _ (0, 0) 1]; rfl)
  have d2 : w3.cell? ⟨w.heap.size, 2, none⟩ = some (.int .u32 s) := cell_later hx3 (by rw [World.cell?_alloc_mark w _ _ (0, 0) 2]; rfl)
  have d3 : w3.cell? ⟨w.heap.size, 3, none⟩ = some (.int .u32 a) := cell_later hx3 (by rw [World.cell?_alloc_mark w _ _ (0, 0) 3]; rfl)
  have d4 : w3.cell? ⟨w.heap.size, 4, none⟩ = some (.int .i64 b) := cell_later hx3 (by rw [World.cell?_alloc_mark w _ _ (0, 0) 4]; rfl)
  have hlt : w.heap.size < w3.heap.size := by have := hx3.size; simp only [World.size_alloc] at this; omega
  have HX : Hid (Below w.heap.size w (w3.alloc (.cells (enC ⟨k, t, s, a, b⟩) 25))) := below_trans (below_alloc _ _) (below_trans hx3 (below_alloc _ _))
  clear hx2 hx3 hb3 H2
  go_wp2
  go_ret
  exact ⟨rfl, HX.out⟩

theorem walk (v0 : Value) (w : World) (V0 : IsEn w v0) :
    Calls Try.prog 6 #[v0] w fun e w' => e = .returned (.bool true) ∧ Below w.heap.size w w' := by
  obtain ⟨⟨k, t, s, a, b⟩, rfl, ho⟩ := V0
  by_cases h : En.May ⟨k, t, s, a, b⟩
  · exact walk_ok k t s a b w h ho
  · exact walk_no k t s a b w h

set_option maxRecDepth 100000 in
theorem lifted (os : Os) (started : os.Started) (H : Type) (enc : TypeId × Value → H) :
    ReturnsInHanded {} Try.checked os 6 .any (Rows.entryBackSpec.pre6 enc Try.prog Try.f6 Rows.entryBackRow.domain false) (Rows.entryBackSpec.post enc Try.prog Try.f6 false true false false) := by
  refine returnsInHanded_of_change_sized (C := Try.checked) own started (by kernel_rfl) Try.func6
    (ChangeSpec.witness6 (enc := enc) (C := Try.checked) false ⟨#[], #[.agg #[.int .i64 0, .int .i64 0, .int .u32 0, .int .u32 0, .int .i64 0]], []⟩ 8 (by kernel_rfl) (by kernel_rfl) (by kernel_rfl) (by kernel_rfl)) ?_
  intro W base args ds gs before hval0 hW hcnd hsz0 _
  have hval : ∀ (j : Nat) t v, Try.f6.params[j]? = some t → args[j]? = some v → Value.okWide Try.prog W .any base t v := hval0
  have hsz : ∀ n ∈ DataW.weightsEach Try.prog (Try.f6.params.toList ++ Rows.entryBackSpec.plain.varTypes Try.prog) (ds ++ gs), n ≤ reachBytes := fun n hn => by simpa using List.all_eq_true.1 hsz0 n hn
  have hW' := hW
  obtain ⟨p, q, hA0, hV, rfl, hfz, hnd⟩ := hW
  have hA : DataW.TrodAll enc Try.prog W 0 (fun _ => true) true Try.f6.params.toList args.toList ds p := hA0
  rw [Try.params6] at hA hval hsz
  obtain ⟨v0, vs0, d0, ds0, p0, q0, hargs, rfl, rfl, h0, r0⟩ := trodAll_cons hA
  obtain ⟨rfl, rfl, rfl⟩ := trodAll_nil r0
  obtain rfl : args = #[v0] := by cases args; simp_all
  obtain ⟨rfl, rfl⟩ := trodVars_none hV
  have lt0 : ∀ x ∈ p0, x.block < W.heap.size := by obtain ⟨m, hm⟩ := h0; exact DataW.trod_lt m _ _ _ hm
  have V0 := viewEn (hval 0 25 v0 rfl rfl) h0 (fun n hn => hsz n (DataW.weights_mem_each (j := 0) rfl rfl n hn))
  clear hA0 hval0 hsz0 hsz
  refine (walk v0 W V0).mono fun e W' ⟨he, bel⟩ => ?_
  subst he
  exact ⟨_, rfl, _, _, _, [], _, [], hW', trodAll_mk1 (shut_bool Try.underlying4 _), (trodAll_cons_mk (Below.trod laidOut (by kernel_rfl) (of_decide_eq_true (by kernel_rfl)) h0 bel lt0) trodAll_mk0), rfl, bel.frame _, fun h => by cases h⟩

theorem over : Rows.entryBackRow.holds Try.pinned (OpenSpec.ofChange Rows.entryBackSpec) :=
  OpenClaim.holds_of_wide 6 Try.f6 rfl rfl rfl rfl rfl rfl rfl ⟨rfl, rfl, rfl, rfl, rfl⟩ rfl rfl rfl rfl rfl (by kernel_rfl) Try.func6 (by kernel_rfl)
    (of_decide_eq_true (by kernel_rfl)) (by unfold Func.isWrapper; first | (rw [if_pos (by decide +kernel)]; kernel_rfl) | (rw [if_neg (by decide +kernel)]; exact ⟨rfl, rfl⟩))
    (fun os started H enc _ => lifted os started H enc)

end Go.Proofs.Ytgkppclnpjkeeaa.entryBack
namespace Go.Proofs.Ytgkppclnpjkeeaa
theorem entryBack_holds : Rows.EntryBackSaid := entryBack.over
#print axioms entryBack_holds
end Go.Proofs.Ytgkppclnpjkeeaa
