/- EntryDecodes: for all bytes the call returns true: the entry, or the first thing that is wrong. No condition. -/
import Derived.Test.YtgkppclnpjkeeaaEntAwake
import Derived.Test.YtgkppclnpjkeeaaEntRDec2
import Derived.Test.YtgkppclnpjkeeaaRows
set_option maxRecDepth 100000
namespace Go.Proofs.Ytgkppclnpjkeeaa.entryDecodes
open Go.ChangeShapes Go.WideShapes Go.ChangeAt Go.RowKit

/-- An entry's value, whatever it is. -/
theorem enV_shape (e : En) : ∃ k t s a b : Int, enV e = .agg #[.int .i64 k, .int .i64 t, .int .u32 s, .int .u32 a, .int .i64 b] := ⟨_, _, _, _, _, rfl⟩

set_option maxHeartbeats 2000000 in
theorem walk (v : Value) (w : World) (V0 : IsBts w v) :
    Calls Try.prog 5 #[v] w fun e w' => e = .returned (.bool true) ∧ Below w.heap.size w w' := by
  obtain ⟨l, hl, -⟩ := V0
  have HL : Hid (Bts w v l) := hl
  have HD := fun W (h : Bts W v l) => decode_any v l W h
  have HR := fun W (h : Bts W v l) => rdecode_any v l W h
  obtain ⟨k, t, s, a, b, hv⟩ := enV_shape (entE l)
  rw [hv] at HD HR
  generalize whyE l = y at *
  obtain ⟨aa, cap, bb, off, hvv, -⟩ := hl
  subst hvv
  generalize l.length = n at *
  clear hv
  go_enter Try.func5, Try.ntmps5
  go_wp2_with fail
  refine (awake9_any _).mono ?_
  rintro e w1 ⟨rfl, hb1⟩
  have H1 := HD w1 (HL.out.later hb1)
  clear HD
  go_wp2_with fail
  refine H1.mono ?_
  rintro e w2 ⟨rfl, hb2⟩
  have hx2 := below_trans hb1 (below_trans hb2 (below_alloc w2 (.cells #[.int .i64 k, .int .i64 t, .int .u32 s, .int .u32 a, .int .i64 b] 25)))
  have H2 := HR _ (HL.out.later hx2)
  clear H1 HR hb1 hb2
  go_wp2_with fail
  refine H2.mono ?_
  rintro e w3 ⟨rfl, hb3⟩
  have hx3 : Below w.heap.size w (w3.alloc (.cells #[.int .i64 k, .int .i64 t, .int .u32 s, .int .u32 a, .int .i64 b] 25)) := below_trans hx2 (below_trans hb3 (below_alloc w3 _))
  have hlt : w2.heap.size < w3.heap.size := by have := hb3.size; simp only [World.size_alloc] at this; omega
  have c0 : w3.cell? ⟨w2.heap.size, 0, none⟩ = some (.int .i64 k) := cell_later hb3 (by rw [World.cell?_alloc_mark w2 _ _ (0, 0) 0]; rfl)
  have c1 : w3.cell? ⟨w2.heap.size, 1, none⟩ = some (.int .i64 t) := cell_later hb3 (by rw [World.cell?_alloc_mark w2 _ _ (0, 0) 1]; rfl)
  have c2 : w3.cell? ⟨w2.heap.size, 2, none⟩ = some (.int .u32 s) := cell_later hb3 (by rw [World.cell?_alloc_mark w2 _ _ (0, 0) 2]; rfl)
  have c3 : w3.cell? ⟨w2.heap.size, 3, none⟩ = some (.int .u32 a) := cell_later hb3 (by rw [World.cell?_alloc_mark w2 _ _ (0, 0) 3]; rfl)
  have c4 : w3.cell? ⟨w2.heap.size, 4, none⟩ = some (.int .i64 b) := cell_later hb3 (by rw [World.cell?_alloc_mark w2 _ _ (0, 0) 4]; rfl)
  have HX3 : Hid (Below w.heap.size w (w3.alloc (.cells #[.int .i64 k, .int .i64 t, .int .u32 s, .int .u32 a, .int .i64 b] 25))) := hx3
  clear H2 hx2 hb3 hx3
  go_wp2
  go_ret
  exact ⟨rfl, HX3.out⟩

set_option maxRecDepth 100000 in
theorem lifted (os : Os) (started : os.Started) (H : Type) (enc : TypeId × Value → H) :
    ReturnsInHanded {} Try.checked os 5 .any (Rows.entryDecodesSpec.pre6 enc Try.prog Try.f5 Rows.entryDecodesRow.domain false) (Rows.entryDecodesSpec.post enc Try.prog Try.f5 false true false false) := by
  refine returnsInHanded_of_change_sized (C := Try.checked) own started (by kernel_rfl) Try.func5
    (ChangeSpec.witness6 (enc := enc) (C := Try.checked) false ⟨#[], #[.slice none 0 0], []⟩ 8 (by kernel_rfl) (by kernel_rfl) (by kernel_rfl) (by kernel_rfl)) ?_
  intro W base args ds gs before hval0 hW hcnd hsz0 _
  have hval : ∀ (j : Nat) t v, Try.f5.params[j]? = some t → args[j]? = some v → Value.okWide Try.prog W .any base t v := hval0
  have hsz : ∀ n ∈ DataW.weightsEach Try.prog (Try.f5.params.toList ++ Rows.entryDecodesSpec.plain.varTypes Try.prog) (ds ++ gs), n ≤ reachBytes := fun n hn => by simpa using List.all_eq_true.1 hsz0 n hn
  have hW' := hW
  obtain ⟨p, q, hA0, hV, rfl, hfz, hnd⟩ := hW
  have hA : DataW.TrodAll enc Try.prog W 0 (fun _ => true) true Try.f5.params.toList args.toList ds p := hA0
  rw [Try.params5] at hA hval hsz
  obtain ⟨v0, vs0, d0, ds0, p0, q0, hargs, rfl, rfl, h0, r0⟩ := trodAll_cons hA
  obtain ⟨rfl, rfl, rfl⟩ := trodAll_nil r0
  obtain rfl : args = #[v0] := by cases args; simp_all
  obtain ⟨rfl, rfl⟩ := trodVars_none hV
  have lt0 : ∀ x ∈ p0, x.block < W.heap.size := by obtain ⟨m, hm⟩ := h0; exact DataW.trod_lt m _ _ _ hm
  have V0 := view26 (hval 0 29 v0 rfl rfl) h0 (fun n hn => hsz n (DataW.weights_mem_each (j := 0) rfl rfl n hn))
  clear hA0 hval0 hsz0 hsz
  refine (walk v0 W V0).mono fun e W' ⟨he, bel⟩ => ?_
  subst he
  exact ⟨_, rfl, _, _, _, [], _, [], hW', trodAll_mk1 (shut_bool Try.underlying4 _), (trodAll_cons_mk (Below.trod laidOut (by kernel_rfl) (of_decide_eq_true (by kernel_rfl)) h0 bel lt0) trodAll_mk0), rfl, bel.frame _, fun h => by cases h⟩

theorem over : Rows.entryDecodesRow.holds Try.pinned (OpenSpec.ofChange Rows.entryDecodesSpec) :=
  OpenClaim.holds_of_wide 5 Try.f5 rfl rfl rfl rfl rfl rfl rfl ⟨rfl, rfl, rfl, rfl, rfl⟩ rfl rfl rfl rfl rfl (by kernel_rfl) Try.func5 (by kernel_rfl)
    (of_decide_eq_true (by kernel_rfl)) (by unfold Func.isWrapper; first | (rw [if_pos (by decide +kernel)]; kernel_rfl) | (rw [if_neg (by decide +kernel)]; exact ⟨rfl, rfl⟩))
    (fun os started H enc _ => lifted os started H enc)

end Go.Proofs.Ytgkppclnpjkeeaa.entryDecodes
namespace Go.Proofs.Ytgkppclnpjkeeaa
theorem entryDecodes_holds : Rows.EntryDecodesSaid := entryDecodes.over
#print axioms entryDecodes_holds
end Go.Proofs.Ytgkppclnpjkeeaa
