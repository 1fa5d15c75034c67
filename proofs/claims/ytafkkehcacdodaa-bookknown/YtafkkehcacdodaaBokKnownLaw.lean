/- BookKnown: chapter 11's examples. -/
import Derived.Test.YtafkkehcacdodaaM25
import Derived.Test.YtafkkehcacdodaaRows
import Derived.Deep.RegionHeld3
set_option maxRecDepth 100000
namespace Go.Proofs.Ytafkkehcacdodaa.bookKnown
open Go.ChangeShapes Go.WideShapes Go.ChangeAt Go.RowKit Go.Shelf

def kn0 : Bm := newB 9 5
def kn1 : Bm := kn0.put ⟨2, 6, 7, 9, 0⟩
def kn2 : Bm := ⟨kn1.s.add [0, 1], kn1.t, kn1.L, kn1.D⟩
def kn3 : Bm := kn2.put ⟨2, 10, 7, 9, 1⟩
def kn4 : Bm := kn3.put ⟨2, 12, 8, 9, 1⟩

theorem kn_e1 : kn0.putE ⟨2, 6, 7, 9, 0⟩ = 0 := by kernel_rfl
theorem kn_e3 : kn2.putE ⟨2, 10, 7, 9, 1⟩ = 8 := by kernel_rfl
theorem kn_D3 : kn3.D = [⟨3, 10, 0, 9, 1⟩] := by kernel_rfl
theorem kn_e4 : kn3.putE ⟨2, 12, 8, 9, 1⟩ = 0 := by kernel_rfl
theorem kn_D4 : kn4.D = [] := by kernel_rfl
theorem kn_L4 : kn4.L = [⟨1, 5, 0, 0, 0⟩, ⟨2, 6, 7, 9, 0⟩, ⟨3, 10, 0, 9, 1⟩, ⟨2, 12, 8, 9, 1⟩] := by kernel_rfl
theorem kn_n0 : kn0.s.outs.length = 0 ∧ kn0.t.recs.length = 1 ∧ kn0.L.length = 1 := ⟨by kernel_rfl, by kernel_rfl, by kernel_rfl⟩
theorem kn_n2 : kn1.s.outs.length = 0 ∧ kn2.s.outs.length = 2 ∧ kn2.t.recs.length = 2 ∧ kn2.L.length = 2 := ⟨by kernel_rfl, by kernel_rfl, by kernel_rfl, by kernel_rfl⟩
theorem kn_n3 : kn3.s.outs.length = 0 ∧ kn3.t.recs.length = 3 ∧ kn3.L.length = 2 := ⟨by kernel_rfl, by kernel_rfl, by kernel_rfl⟩


theorem bk_later {w w' : World} {tag : Nat → Nat} {base o D B : Nat} {b : Bm} (h : BK w tag base o D B b) (hb : Below w.heap.size w w') : BK w' tag base o D B b := by
  obtain ⟨p', q', kv, dv, k0, k1, k2, k3⟩ := h
  exact ⟨p', q', kv, dv, k0, k1.later hb, k2.later hb, k3.later hb⟩

set_option maxHeartbeats 8000000 in
theorem walk (w : World) : Calls Try.prog 3 #[] w fun e w' => e = .returned (.bool true) ∧ Below w.heap.size w w' := by
  obtain ⟨n1, n2, n3, n4, n5⟩ := newB_ok 9 (by omega) (by omega) 5 rfl
  have ok1 : En.Ok ⟨2, 6, 7, 9, 0⟩ := en_ok 2 6 7 9 0 (by omega) (by omega) (by omega) (by omega) (by omega)
  have ok3 : En.Ok ⟨2, 10, 7, 9, 1⟩ := en_ok 2 10 7 9 1 (by omega) (by omega) (by omega) (by omega) (by omega)
  have ok4 : En.Ok ⟨2, 12, 8, 9, 1⟩ := en_ok 2 12 8 9 1 (by omega) (by omega) (by omega) (by omega) (by omega)
  have k1 : kn1.Ok 6 := (n1.put ok1).1
  have k2 : kn2.Ok 6 := ⟨⟨k1.nb.ok.add (by intro z hz; simp at hz; omega), k1.nb.tk, k1.nb.ops, k1.nb.sin⟩, k1.fL, k1.fD, k1.d1⟩
  have k3 : kn3.Ok 10 := (k2.put ok3).1
  obtain ⟨a1, a2, a3⟩ := kn_n0
  obtain ⟨b1, b2, b3, b4⟩ := kn_n2
  obtain ⟨c1, c2, c3⟩ := kn_n3
  have H1 := fun w' tag' D B h hb => bgrant_ok w' tag' w.heap.size 1 D B (by omega) kn0 h hb 6 7 9 0 ok1 2 n1 (by omega) (by omega) (by omega) (by omega)
  have H2 := fun w' tag' D B h hb v hv => boutcomes_ok w' tag' w.heap.size 1 D B kn1 h hb v [0, 1] hv (by rw [b1]; decide)
  have H3 := fun w' tag' D B h hb => bgrant_ok w' tag' w.heap.size 1 D B (by omega) kn2 h hb 10 7 9 1 ok3 6 k2 (by omega) (by omega) (by omega) (by omega)
  have H4 := fun w' tag' D B h => bdebts_ok w' tag' w.heap.size 1 D B kn3 h (by rw [kn_D3]; decide)
  have H5 := fun w' tag' D B h hb => bgrant_ok w' tag' w.heap.size 1 D B (by omega) kn3 h hb 12 8 9 1 ok4 10 k3 (by omega) (by omega) (by omega) (by omega)
  have H6 := fun w' tag' D B h => bentries_ok w' tag' w.heap.size 1 D B kn4 h (by rw [kn_L4]; decide)
  have H7 := fun w' => bopen_nil w' 5
  have H8 := fun w' tag' D B h => bdebts_ok w' tag' w.heap.size 1 D B kn4 h (by rw [kn_D4]; decide)
  rw [kn_e1] at H1
  rw [kn_e3] at H3
  rw [kn_D3] at H4
  rw [kn_e4] at H5
  rw [kn_L4] at H6
  rw [kn_D4] at H8
  clear n1 n2 n3 n4 n5 ok1 ok3 ok4 k1 k2 k3 a1 a2 a3 b1 b2 b3 b4 c1 c2 c3
  have H1 : Hid (∀ w' tag' D B, _) := H1
  have H2 : Hid (∀ w' tag' D B, _) := H2
  have H3 : Hid (∀ w' tag' D B, _) := H3
  have H4 : Hid (∀ w' tag' D B, _) := H4
  have H5 : Hid (∀ w' tag' D B, _) := H5
  have H6 : Hid (∀ w' tag' D B, _) := H6
  have H7 : Hid (∀ w', _) := H7
  have H8 : Hid (∀ w' tag' D B, _) := H8
  go_enter Try.func3, Try.ntmps3
  go_wp2_with fail
  refine (awake11_ok _).mono ?_
  rintro e wz ⟨rfl, hBz⟩
  have HF := fresh_ok11 wz (fun _ => 0) w.heap.size 1 (by omega) hBz.size 9 9 rfl (by omega) (by omega) 5 rfl
  go_wp2_with fail
  refine HF.mono ?_
  rintro e w1 ⟨D, B, tag1, rfl, hK1, _, hB1⟩
  have hB1 := hBz.trans hB1
  have h1 := H1.out w1 tag1 D B hK1 hB1.size
  clear hK1 HF hBz
  go_wp2_with fail
  refine h1.mono ?_
  rintro e w2 ⟨rfl, tag2, hS2, hK2⟩
  have hB2 := hB1.trans hS2.below
  have hba : Below w2.heap.size w2 (w2.alloc (.cells #[.int .u8 0, .int .u8 1] 5)) := below_alloc _ _
  have h2 := H2.out (w2.alloc (.cells #[.int .u8 0, .int .u8 1] 5)) tag2 D B (bk_later hK2 hba) (Nat.le_trans hB2.size hba.size) _ (blk_bts (w := w2.alloc (.cells #[.int .u8 0, .int .u8 1] 5)) (g := w2.heap.size) (l := [0, 1]) (blk_new w2 #[.int .u8 0, .int .u8 1] 5) (by intro z hz; simp at hz; omega) (by decide))
  have HBa : Hid (Below w.heap.size w (w2.alloc (.cells #[.int .u8 0, .int .u8 1] 5))) := hB2.trans (hba.mono hB2.size)
  clear hK2 hS2 h1 hba
  go_wp2_with fail
  refine (by exact h2 : Calls _ _ _ _ _).mono ?_
  rintro e w3 ⟨rfl, tag3, hS3, hK3⟩
  have hB3 := HBa.out.trans hS3.below
  have h3 := H3.out w3 tag3 D B hK3 hB3.size
  clear hK3 hS3 h2 HBa
  go_wp2_with fail
  refine h3.mono ?_
  rintro e w4 ⟨rfl, tag4, hS4, hK4⟩
  have hB4 := hB3.trans hS4.below
  have h4 := H4.out w4 tag4 D B hK4
  have HK4 : Hid (BK w4 tag4 w.heap.size 1 D B kn3) := hK4
  clear hK4 hS4 h3 hB3
  go_wp2_with fail
  refine h4.mono ?_
  rintro e w5 ⟨lv, rfl, hW5, hB5, hfr⟩
  have hB05 := hB4.trans (hB5.mono hB4.size)
  have h5 := H5.out w5 (clip tag4 w4.heap.size) D B (HK4.out.new hB5) hB05.size
  obtain ⟨lb, lo, hE5, hob⟩ := win_ens hW5
  have hlb : clip tag4 w4.heap.size lb / 16 < 1 := by
    have := hfr lb (hob (by simp))
    simp [clip, Nat.not_lt.2 this]
  have hlbl : lb < w5.heap.size := hW5.lt lb (hob (by simp))
  obtain ⟨la, lc, rfl, _, hlc2, hla, hEl⟩ := hE5
  have he := hEl 0 _ rfl
  have hla' : la = some ⟨lb, lo, none⟩ := by
    rcases hla with h | h
    · exact h
    · cases h
  subst hla'
  rw [Nat.zero_mul, Nat.add_zero] at he
  clear hEl hW5 hla h4 hB5 hB4 hfr hob
  go_wp2_with fail
  refine h5.mono ?_
  rintro e w6 ⟨rfl, tag6, hS6, hK6⟩
  have hB06 := hB05.trans hS6.below
  have h6 := H6.out w6 tag6 D B hK6
  obtain ⟨e0, e1, e2, e3, e4⟩ := he
  have HE6 : Hid (w6.cell? ⟨lb, lo, none⟩ = some (.int .i64 3) ∧ w6.cell? ⟨lb, lo + 1, none⟩ = some (.int .i64 10) ∧ w6.cell? ⟨lb, lo + 2, none⟩ = some (.int .u32 0) ∧ w6.cell? ⟨lb, lo + 3, none⟩ = some (.int .u32 9) ∧ w6.cell? ⟨lb, lo + 4, none⟩ = some (.int .i64 1)) :=
    ⟨((stepR_cell hS6 hlbl hlb _).1).trans e0, ((stepR_cell hS6 hlbl hlb _).1).trans e1, ((stepR_cell hS6 hlbl hlb _).1).trans e2, ((stepR_cell hS6 hlbl hlb _).1).trans e3, ((stepR_cell hS6 hlbl hlb _).1).trans e4⟩
  have HK6 : Hid (BK w6 tag6 w.heap.size 1 D B kn4) := hK6
  clear e0 e1 e2 e3 e4 hS6 hK6 h5 hlb hlbl hB05
  go_wp2_with fail
  refine h6.mono ?_
  rintro e w7 ⟨mv, rfl, hW7, hB7, _⟩
  obtain ⟨mb, mo, hE7, _⟩ := win_ens hW7
  obtain ⟨ma, mc, rfl, _, hmc2, hma, hEm⟩ := hE7
  have hma' : ma = some ⟨mb, mo, none⟩ := by
    rcases hma with h | h
    · exact h
    · cases h
  subst hma'
  have HM2 : Hid (EnAt w7 mb (mo + 2 * 5) ⟨3, 10, 0, 9, 1⟩ ∧ EnAt w7 mb (mo + 3 * 5) ⟨2, 12, 8, 9, 1⟩) := ⟨hEm 2 _ rfl, hEm 3 _ rfl⟩
  have hB07 := hB06.trans (hB7.mono hB06.size)
  have h7 := H7.out w7
  clear hW7 h6 hB06 hma hEm
  go_wp2_with fail
  refine h7.mono ?_
  rintro e w8 ⟨rfl, hB8⟩
  have hB78 : Below w6.heap.size w6 w8 := hB7.trans (hB8.mono hB7.size)
  have h8 := H8.out w8.drew tag6 D B (bk_later HK6.out hB78.drew)
  have hB08 := hB07.trans (hB8.mono hB07.size)
  have HS8 : Hid (∀ wx, Below w8.heap.size w8 wx → (wx.cell? ⟨lb, lo, none⟩ = some (.int .i64 3) ∧ wx.cell? ⟨lb, lo + 1, none⟩ = some (.int .i64 10) ∧ wx.cell? ⟨lb, lo + 2, none⟩ = some (.int .u32 0) ∧ wx.cell? ⟨lb, lo + 3, none⟩ = some (.int .u32 9) ∧ wx.cell? ⟨lb, lo + 4, none⟩ = some (.int .i64 1)) ∧
      (wx.cell? ⟨mb, mo + 2 * 5, none⟩ = some (.int .i64 3) ∧ wx.cell? ⟨mb, mo + 2 * 5 + 1, none⟩ = some (.int .i64 10) ∧ wx.cell? ⟨mb, mo + 2 * 5 + 2, none⟩ = some (.int .u32 0) ∧ wx.cell? ⟨mb, mo + 2 * 5 + 3, none⟩ = some (.int .u32 9) ∧ wx.cell? ⟨mb, mo + 2 * 5 + 4, none⟩ = some (.int .i64 1)) ∧ wx.cell? ⟨mb, mo + 3 * 5 + 2, none⟩ = some (.int .u32 8)) := by
    intro wx hx
    obtain ⟨e0, e1, e2, e3, e4⟩ := HE6.out
    have h6x : Below w6.heap.size w6 wx := hB78.trans (hx.mono hB78.size)
    have h7x : Below w7.heap.size w7 wx := hB8.trans (hx.mono hB8.size)
    obtain ⟨⟨f0, f1, f2, f3, f4⟩, _, _, g2, _, _⟩ := HM2.out
    exact ⟨⟨cell_later h6x e0, cell_later h6x e1, cell_later h6x e2, cell_later h6x e3, cell_later h6x e4⟩, ⟨cell_later h7x f0, cell_later h7x f1, cell_later h7x f2, cell_later h7x f3, cell_later h7x f4⟩, cell_later h7x g2⟩
  obtain ⟨⟨e0, e1, e2, e3, e4⟩, ⟨f0, f1, f2, f3, f4⟩, g2⟩ := HS8.out w8 (Below.refl _ _)
  have heq := fun w => eqE5 ⟨3, 10, 0, 9, 1⟩ ⟨3, 10, 0, 9, 1⟩ w
  have hsm : sameE ⟨3, 10, 0, 9, 1⟩ ⟨3, 10, 0, 9, 1⟩ = true := rfl
  rw [hsm] at heq
  have hgd := guardE5
  clear hB7 hB8 h7 hB07 hB78 hsm
  have hl1 : ([⟨3, 10, 0, 9, 1⟩] : List En).length = 1 := rfl
  have hl4 : ([⟨1, 5, 0, 0, 0⟩, ⟨2, 6, 7, 9, 0⟩, ⟨3, 10, 0, 9, 1⟩, ⟨2, 12, 8, 9, 1⟩] : List En).length = 4 := rfl
  have HS9 : Hid (∀ w', Below w8.drew.heap.size w8.drew w' → w'.cell? ⟨lb, lo, none⟩ = some (.int .i64 3) ∧ w'.cell? ⟨lb, lo + 1, none⟩ = some (.int .i64 10) ∧ w'.cell? ⟨lb, lo + 2, none⟩ = some (.int .u32 0) ∧ w'.cell? ⟨lb, lo + 3, none⟩ = some (.int .u32 9) ∧ w'.cell? ⟨lb, lo + 4, none⟩ = some (.int .i64 1) ∧ w'.cell? ⟨mb, mo + 10, none⟩ = some (.int .i64 3) ∧ w'.cell? ⟨mb, mo + 11, none⟩ = some (.int .i64 10) ∧ w'.cell? ⟨mb, mo + 12, none⟩ = some (.int .u32 0) ∧ w'.cell? ⟨mb, mo + 13, none⟩ = some (.int .u32 9) ∧ w'.cell? ⟨mb, mo + 14, none⟩ = some (.int .i64 1) ∧ w'.cell? ⟨mb, mo + 17, none⟩ = some (.int .u32 8)) := by
    intro wx hx
    obtain ⟨⟨e0, e1, e2, e3, e4⟩, ⟨f0, f1, f2, f3, f4⟩, g2⟩ := HS8.out wx ((Below.refl _ w8).drew.trans hx)
    exact ⟨e0, e1, e2, e3, e4, f0, f1, f2, f3, f4, g2⟩
  have K8 := HS9.out w8.drew (Below.refl _ _)
  clear HS8 HE6 HM2 HK6 e0 e1 e2 e3 e4 f0 f1 f2 f3 f4 g2
  go_wp2_with fail
  go_region_held3 (fun w' => w'.cell? ⟨lb, lo, none⟩ = some (.int .i64 3) ∧ w'.cell? ⟨lb, lo + 1, none⟩ = some (.int .i64 10) ∧ w'.cell? ⟨lb, lo + 2, none⟩ = some (.int .u32 0) ∧ w'.cell? ⟨lb, lo + 3, none⟩ = some (.int .u32 9) ∧ w'.cell? ⟨lb, lo + 4, none⟩ = some (.int .i64 1) ∧ w'.cell? ⟨mb, mo + 10, none⟩ = some (.int .i64 3) ∧ w'.cell? ⟨mb, mo + 11, none⟩ = some (.int .i64 10) ∧ w'.cell? ⟨mb, mo + 12, none⟩ = some (.int .u32 0) ∧ w'.cell? ⟨mb, mo + 13, none⟩ = some (.int .u32 9) ∧ w'.cell? ⟨mb, mo + 14, none⟩ = some (.int .i64 1) ∧ w'.cell? ⟨mb, mo + 17, none⟩ = some (.int .u32 8))
    (first | (with_reducible exact K8) | (with_reducible exact K9)) ((go_at_call 10; refine h8.mono ?_; rintro e w9 ⟨dv, rfl, hW9, hB9, _⟩; have K9 := HS9.out w9 hB9; obtain ⟨da, dc, hdv, _⟩ := win_form hW9; subst hdv))
  go_wp2
  go_ret
  exact ⟨rfl, hB08.drew.trans (hB9.mono hB08.size)⟩

set_option maxRecDepth 100000 in
theorem lifted (os : Os) (started : os.Started) (H : Type) (enc : TypeId × Value → H) :
    ReturnsInHanded {} Try.checked os 3 .any (Rows.bookKnownSpec.pre6 enc Try.prog Try.f3 Rows.bookKnownRow.domain false) (Rows.bookKnownSpec.post enc Try.prog Try.f3 false true false false) := by
  refine returnsInHanded_of_change_sized (C := Try.checked) own started (by kernel_rfl) Try.func3
    (ChangeSpec.witness6 (enc := enc) (C := Try.checked) false ⟨#[], #[], []⟩ 8 (by kernel_rfl) (by kernel_rfl) (by kernel_rfl) (by kernel_rfl)) ?_
  intro W base args ds gs before hval0 hW hcnd hsz0 _
  have hval : ∀ (j : Nat) t v, Try.f3.params[j]? = some t → args[j]? = some v → Value.okWide Try.prog W .any base t v := hval0
  have hsz : ∀ n ∈ DataW.weightsEach Try.prog (Try.f3.params.toList ++ Rows.bookKnownSpec.plain.varTypes Try.prog) (ds ++ gs), n ≤ reachBytes := fun n hn => by simpa using List.all_eq_true.1 hsz0 n hn
  have hW' := hW
  obtain ⟨p, q, hA0, hV, rfl, hfz, hnd⟩ := hW
  have hA : DataW.TrodAll enc Try.prog W 0 (fun _ => true) true Try.f3.params.toList args.toList ds p := hA0
  rw [Try.params3] at hA hval hsz
  obtain ⟨rfl, rfl, rfl⟩ := trodAll_none hA
  obtain ⟨rfl, rfl⟩ := trodVars_none hV
  clear hA0 hval0 hsz0 hsz
  refine (walk  W ).mono fun e W' ⟨he, bel⟩ => ?_
  subst he
  exact ⟨_, rfl, _, _, _, [], [], [], hW', trodAll_mk1 (shut_bool Try.underlying4 _), trodAll_mk0, rfl, bel.frame _, fun h => by cases h⟩

theorem over : Rows.bookKnownRow.holds Try.pinned (OpenSpec.ofChange Rows.bookKnownSpec) :=
  OpenClaim.holds_of_wide 3 Try.f3 rfl rfl rfl rfl rfl rfl rfl ⟨rfl, rfl, rfl, rfl, rfl⟩ rfl rfl rfl rfl rfl (by kernel_rfl) Try.func3 (by kernel_rfl)
    (of_decide_eq_true (by kernel_rfl)) (by unfold Func.isWrapper; first | (rw [if_pos (by decide +kernel)]; kernel_rfl) | (rw [if_neg (by decide +kernel)]; exact ⟨rfl, rfl⟩))
    (fun os started H enc _ => lifted os started H enc)

end Go.Proofs.Ytafkkehcacdodaa.bookKnown
namespace Go.Proofs.Ytafkkehcacdodaa
theorem bookKnown_holds : Rows.BookKnownSaid := bookKnown.over
#print axioms bookKnown_holds
end Go.Proofs.Ytafkkehcacdodaa
