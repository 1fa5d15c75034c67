/- The walk of IpKnown. -/
import Derived.Test.YtkclbmhhlpdcnaaDoorIpReadsWalk
import Derived.Test.YtkclbmhhlpdcnaaDoorBeside
set_option maxRecDepth 100000
namespace Go.Proofs.YtkclbmhhlpdcnaaDoor
open Go.RowKit

def bL : List Int := [69, 0, 0, 20, 0, 0, 0, 0, 64, 17, 96, 201, 10, 0, 0, 1, 8, 8, 8, 8]

theorem built_plain : built plainDg = bL := by decide

theorem bytes_bL : isBytes bL := by intro z hz; revert z; decide

theorem Holds8.whole {w : World} {base G len cap : Nat} {L : List Int} (h : Holds8 w base G len cap L) (hb : isBytes L) : At w G 0 len cap L := by
  have h0 := h
  obtain ⟨hl, ho⟩ := h
  rcases ho.2 with ⟨hv, -⟩ | ⟨g, cap', cur, hv, -, -, hn, hm, -, -⟩
  · cases hv
  · simp only [Value.slice.injEq, Option.some.injEq, Addr.mk.injEq, and_true, true_and] at hv
    obtain ⟨-, rfl⟩ := hv
    exact ⟨hn, hm, hl, hb, fun i hi => by rw [Nat.zero_add]; exact h0.cell i (by omega)⟩

theorem good9 : Good (bL ++ [9]) := by rw [← built_plain]; exact good_built plainDg plain_ok (fits_of plainDg (by decide)) [9] (by decide)

theorem dg9 : dgOf (bL ++ [9]) = plainDg := by rw [← built_plain]; exact dg_built plainDg plain_ok (fits_of plainDg (by decide)) [9]

theorem take19 : ∀ i : Fin 19, (bL.take 19).getD i.val 0 = bL.getD i.val 0 := by decide

theorem At.short {w : World} {g cap : Nat} (h : At w g 0 20 cap bL) : At w g 0 19 cap (bL.take 19) :=
  ⟨Nat.le_trans (by decide) h.cap1, h.cap2, rfl, (by intro z hz; revert z; decide), fun i hi => by
    have hi' : i < 19 := hi
    rw [take19 ⟨i, hi'⟩]
    exact h.sees i (Nat.lt_trans hi' (by decide))⟩

theorem s1_eq : str (showL 167772161) = ⟨#[49, 48, 46, 48, 46, 48, 46, 49]⟩ := by decide +kernel

theorem s2_no : ¬ IsShow ⟨#[49, 48, 46, 48, 46, 48, 46, 48, 49]⟩ := not_other (A := 655360) (p := 1) (n := 3) (by decide +kernel) (by decide +kernel)

theorem s3_no : ¬ IsShow ⟨#[49, 46, 50, 46, 51]⟩ := not_other (A := 258) (p := 3) (n := 2) (by decide +kernel) (by decide)

theorem show167 (w : World) (htab : Lib.TabIs Tryd.prog w "internal/strconv.uint64pow10" .u64 Lib.pow10Tab) :
    Calls Tryd.prog 11 #[.int .u32 167772161] w fun e w' => e = .returned (.string ⟨#[49, 48, 46, 48, 46, 48, 46, 49]⟩) ∧ Below w.heap.size w w' := by
  have := show_any 167772161 w (by decide) htab
  rw [s1_eq] at this
  exact this

def zeroBox : Obj := .cells #[.int .i64 Dg.zero.tos, .int .i64 Dg.zero.id, .bool Dg.zero.df, .bool Dg.zero.mf, .int .i64 Dg.zero.off, .int .i64 Dg.zero.ttl, .int .i64 Dg.zero.proto, .int .u32 Dg.zero.src, .int .u32 Dg.zero.dst, .slice none 0 0, .slice none 0 0] 29

set_option maxHeartbeats 4000000 in
theorem known_walk (m : Int) (w : World) (hm : w.cell? ⟨0, 0, none⟩ = some (.int .i64 m)) (he : Errs w) (htab : Lib.TabIs Tryd.prog w "internal/strconv.uint64pow10" .u64 Lib.pow10Tab) :
    Calls Tryd.prog 3 #[] w fun e w' => e = .returned (.bool true) ∧ Below w.heap.size w w' := by
  go_enter Tryd.func3, Tryd.ntmps3
  go_wp2_with fail
  refine (awake2_any _).mono ?_
  rintro e w1 ⟨rfl, b1⟩
  go_wp2_with fail
  refine (plain_any _).mono ?_
  rintro e w2 ⟨rfl, b2⟩
  have B2 := below_trans b1 b2
  clear b1 b2
  go_wp2_with fail
  refine (build_ok plainDg none none 0 0 _ plain_ok (by decide) (bts_nil _) (bts_nil _)).mono ?_
  rintro e w3 ⟨v, rfl, ⟨g, cap, rfl, -, h3, h4, h5, hsee, -⟩, b3⟩
  rw [built_plain] at h3 h5 hsee
  rw [built_plain]
  have B3 := below_trans B2 b3
  clear B2 b3
  have hAb : At w3 g 0 20 cap bL := ⟨h3, h4, rfl, h5, hsee⟩
  clear h3 h5 hsee
  have hcap : 20 ≤ cap := hAb.cap1
  go_wp2_with fail
  refine (copy_any _ g 0 20 cap bL _ hAb.cap1 rfl (.inl rfl) hAb.sees (by decide)).mono ?_
  rintro e w4 ⟨vc, rfl, hown, b4⟩
  obtain ⟨vd, w5, hrun, hown5, b5⟩ := append_bts (w4.alloc (.cells #[.int .u8 9] 5)) w3.heap.size vc (.slice (some ⟨w4.heap.size, 0, none⟩) 1 1) bL [9] (hown.later (below_alloc _ _)) (bts_new1 _ _ 9 rfl (by decide)) (Nat.le_trans b4.size (by simp)) (by decide)
  have B5 : Below w.heap.size w w5 := below_trans B3 (b4.trans ((below_alloc w4 (.cells #[.int .u8 9] 5)).mono b4.size |>.trans b5))
  have b35 : Below w3.heap.size w3 w5 := b4.trans ((below_alloc w4 (.cells #[.int .u8 9] 5)).mono b4.size |>.trans b5)
  have HA5 : Hid (At w5 g 0 20 cap bL) := hAb.later b35
  obtain ⟨gd, capd, rfl, hH⟩ := holds8_of_owns (len := 21) hown5 (by decide) (by decide)
  have HD : Hid (At w5 gd 0 21 capd (bL ++ [9])) := hH.whole (by intro z hz; revert z; decide)
  clear hown hown5 hH b4 b5 b35 B3 hAb
  go_wp2_with (at_builtin; refine Lib.wpList_append_run_sl _ rfl _ _ 23 rfl _ _ rfl rfl hrun ?_)
  clear hrun
  refine (parse_ok' gd 0 21 capd (bL ++ [9]) plainDg _ HD.out good9 dg9).mono ?_
  rintro e w6 ⟨a1, k1, a2, k2, rfl, o1, o2, b6⟩
  have HA6 : Hid (At w6 g 0 20 cap bL) := HA5.out.later b6
  have B6 := below_trans B5 b6
  have HO : Hid (Bts w6 (.slice a1 plainDg.opts.length k1) plainDg.opts ∧ Bts w6 (.slice a2 plainDg.body.length k2) plainDg.body) := ⟨o1, o2⟩
  clear o1 o2 b6 B5 HA5 HD
  have x19 : parseE (bL.take 19) = 2 := by decide
  obtain ⟨W6, hW6⟩ : ∃ W, W = w6.alloc (.cells (ipC plainDg (.slice a1 plainDg.opts.length k1) (.slice a2 plainDg.body.length k2)) 29) := ⟨_, rfl⟩
  have b66 : Below w6.heap.size w6 W6 := by rw [hW6]; exact below_alloc _ _
  have BX : Below W6.heap.size (w6.alloc (.cells (ipC plainDg (.slice a1 plainDg.opts.length k1) (.slice a2 plainDg.body.length k2)) 29)) W6 := by rw [hW6]; exact Below.refl _ _
  have HA6' : Hid (At W6 g 0 20 cap bL) := HA6.out.later b66
  have B6' := below_trans B6 b66
  go_wp2_with fail
  rw [← hW6]
  refine (parse_no _ g 0 19 cap (bL.take 19) W6 (.inl rfl) HA6'.out.short (by rw [x19]; decide)).mono ?_
  rintro e w7 ⟨rfl, b7⟩
  rw [x19]
  have HA7 : Hid (At w7 g 0 20 cap bL) := HA6'.out.later b7
  have B7 := below_trans B6' b7
  have X7 : Below w6.heap.size w6 w7 := below_trans b66 b7
  have Y7 : Below W6.heap.size W6 w7 := b7
  clear b7 B6' HA6' HA6 B6 b66 x19
  obtain ⟨W7, hW7⟩ : ∃ W, W = w7.alloc zeroBox := ⟨_, rfl⟩
  have b77 : Below w7.heap.size w7 W7 := by rw [hW7]; exact below_alloc _ _
  have HA7' : Hid (At W7 g 0 20 cap bL) := HA7.out.later b77
  have B7' := below_trans B7 b77
  have Y7' := below_trans Y7 b77
  clear HA7 B7 Y7 b77
  go_wp2_with fail
  rw [show bL.length = 20 from rfl]
  have hW7' := hW7
  unfold zeroBox at hW7'
  rw [← hW7']
  clear hW7'
  refine (copy_any _ g 0 20 cap bL W7 HA7'.out.cap1 rfl (.inl rfl) HA7'.out.sees (by decide)).mono ?_
  rintro e w8 ⟨vc, rfl, hown, b8⟩
  obtain ⟨gc, capc, rfl, hH⟩ := holds8_of_owns (len := 20) hown rfl (by decide)
  have c4 : w8.cell? ⟨gc, 4, none⟩ = some (.int .u8 0) := hH.cell 4 (by decide)
  have f4 := hH.2.frozenAt 4
  have hx4 : bits .xor .u8 0 1 = 1 := by decide
  have HC : Hid (At (w8.setCell ⟨gc, 4, none⟩ (.int .u8 1)) gc 0 20 capc (bL.set 4 1)) := (hH.store 4 1).whole (by intro z hz; revert z; decide)
  have hge := hH.base
  have e4 : parseE (bL.set 4 1) = 5 := by decide
  have b78 : Below W7.heap.size W7 (w8.setCell ⟨gc, 4, none⟩ (.int .u8 1)) := b8.setCell hge _
  have HA8 : Hid (At (w8.setCell ⟨gc, 4, none⟩ (.int .u8 1)) g 0 20 cap bL) := HA7'.out.later b78
  have B8 := below_trans B7' b78
  have Y8 := below_trans Y7' b78
  clear hown hH b8 b78 HA7' B7' Y7'
  go_wp2_with fail
  refine (parse_no _ gc 0 20 capc (bL.set 4 1) _ (.inl rfl) HC.out (by rw [e4]; decide)).mono ?_
  rintro e w9 ⟨rfl, b9⟩
  rw [e4]
  have HA9 : Hid (At w9 g 0 20 cap bL) := HA8.out.later b9
  have B9 := below_trans B8 b9
  have Y9 := below_trans Y8 b9
  clear HC e4 hx4 c4 f4 hge HA8 B8 Y8 b9
  obtain ⟨W9, hW9⟩ : ∃ W, W = w9.alloc zeroBox := ⟨_, rfl⟩
  have b99 : Below w9.heap.size w9 W9 := by rw [hW9]; exact below_alloc _ _
  have HA9' : Hid (At W9 g 0 20 cap bL) := HA9.out.later b99
  have B9' := below_trans B9 b99
  have Y9' := below_trans Y9 b99
  clear HA9 B9 Y9 b99
  go_wp2_with fail
  have hW9' := hW9
  unfold zeroBox at hW9'
  rw [← hW9']
  clear hW9'
  refine (copy_any _ g 0 20 cap bL W9 HA9'.out.cap1 rfl (.inl rfl) HA9'.out.sees (by decide)).mono ?_
  rintro e w10 ⟨vc, rfl, hown, b10⟩
  obtain ⟨gh, caph, rfl, hH⟩ := holds8_of_owns (len := 20) hown rfl (by decide)
  have c0 : w10.cell? ⟨gh, 0, none⟩ = some (.int .u8 69) := hH.cell 0 (by decide)
  have f0 := hH.2.frozenAt 0
  have HC : Hid (At (w10.setCell ⟨gh, 0, none⟩ (.int .u8 70)) gh 0 20 caph (bL.set 0 70)) := (hH.store 0 70).whole (by intro z hz; revert z; decide)
  have hge := hH.base
  have e4 : parseE (bL.set 0 70) = 2 := by decide
  have b1010 : Below W9.heap.size W9 (w10.setCell ⟨gh, 0, none⟩ (.int .u8 70)) := b10.setCell hge _
  have B10 := below_trans B9' b1010
  have Y10 := below_trans Y9' b1010
  clear hown hH b10 b1010 HA9' B9' Y9'
  go_wp2_with fail
  refine (parse_no _ gh 0 20 caph (bL.set 0 70) _ (.inl rfl) HC.out (by rw [e4]; decide)).mono ?_
  rintro e w11 ⟨rfl, b11⟩
  rw [e4]
  have B11 := below_trans B10 b11
  have Y11 := below_trans Y10 b11
  clear HC e4 c0 f0 hge B10 Y10 b11
  obtain ⟨W11, hW11⟩ : ∃ W, W = w11.alloc zeroBox := ⟨_, rfl⟩
  have b1111 : Below w11.heap.size w11 W11 := by rw [hW11]; exact below_alloc _ _
  have B11' := below_trans B11 b1111
  have Y11' := below_trans Y11 b1111
  have t11 := Go.Joins.tab_stays gTab htab B11' (Nat.le_refl _)
  have m11 := cell_later B11' hm
  have e11 := he.later B11'
  clear B11 Y11 b1111 htab hm he
  have hr := read_ok 167772161 m W11 (by decide) m11 t11
  rw [s1_eq] at hr
  go_wp2_with fail
  have hW11' := hW11
  unfold zeroBox at hW11'
  rw [← hW11']
  clear hW11'
  refine hr.mono ?_
  rintro e w12 ⟨rfl, b12⟩
  have B12 := below_trans B11' b12
  have Y12 := below_trans Y11' b12
  have t12 := Go.Joins.tab_stays gTab t11 b12 (Nat.le_refl _)
  have m12 := cell_later b12 m11
  have e12 := e11.later b12
  clear hr B11' Y11' b12 t11 m11 e11
  have hr := read_no _ m w12 (by decide) s2_no m12 e12 t12
  go_wp2_with fail
  refine hr.mono ?_
  rintro e w13 ⟨rfl, b13⟩
  have B13 := below_trans B12 b13
  have Y13 := below_trans Y12 b13
  have t13 := Go.Joins.tab_stays gTab t12 b13 (Nat.le_refl _)
  have m13 := cell_later b13 m12
  have e13 := e12.later b13
  clear hr B12 Y12 b13 t12 m12 e12
  have hr := read_no _ m w13 (by decide) s3_no m13 e13 t13
  go_wp2_with fail
  refine hr.mono ?_
  rintro e w14 ⟨rfl, b14⟩
  have B14 := below_trans B13 b14
  have Y14 := below_trans Y13 b14
  have t14 := Go.Joins.tab_stays gTab t13 b14 (Nat.le_refl _)
  clear hr B13 Y13 b14 t13 m13 e13
  rw [hW6] at Y14
  have X14 : Below w6.heap.size w6 w14 := below_trans (below_alloc _ _) Y14
  have HO14 : Hid (Bts w14 (.slice a1 plainDg.opts.length k1) plainDg.opts ∧ Bts w14 (.slice a2 plainDg.body.length k2) plainDg.body) := ⟨HO.out.1.later X14, HO.out.2.later X14⟩
  clear BX hW6 HO X14 X7 hW7 hW9 hW11 h4 hcap
  go_wp2_with fail
  obtain ⟨d0, d1, d2, d3, d4, d5, d6, d7, d8, d9, d10⟩ := boxes Y14
  go_region_held3 (fun w' => w'.cell? ⟨w6.heap.size, 0, none⟩ = some (.int .i64 plainDg.tos) ∧ w'.cell? ⟨w6.heap.size, 1, none⟩ = some (.int .i64 plainDg.id) ∧ w'.cell? ⟨w6.heap.size, 2, none⟩ = some (.bool plainDg.df) ∧ w'.cell? ⟨w6.heap.size, 3, none⟩ = some (.bool plainDg.mf) ∧ w'.cell? ⟨w6.heap.size, 4, none⟩ = some (.int .i64 plainDg.off) ∧ w'.cell? ⟨w6.heap.size, 5, none⟩ = some (.int .i64 plainDg.ttl) ∧ w'.cell? ⟨w6.heap.size, 6, none⟩ = some (.int .i64 plainDg.proto) ∧ w'.cell? ⟨w6.heap.size, 7, none⟩ = some (.int .u32 plainDg.src) ∧ w'.cell? ⟨w6.heap.size, 8, none⟩ = some (.int .u32 plainDg.dst) ∧ w'.cell? ⟨w6.heap.size, 9, none⟩ = some (.slice a1 plainDg.opts.length k1) ∧ w'.cell? ⟨w6.heap.size, 10, none⟩ = some (.slice a2 plainDg.body.length k2)) (first | go_keep | (exact boxes (by assumption)))
    (first
      | (go_at_call 6; refine (plain_any _).mono ?_; rintro e w15 ⟨rfl, b15'⟩; have b15 : Below w14.heap.size w14 w15 := below_trans (below_drewN (Below.refl _ _) 1) b15'; have Y15 := below_trans Y14 b15)
      | (go_at_call 10; refine (ipsame_one plainDg _ _ _ _ w15 (HO14.out.1.later b15) (HO14.out.2.later b15) (bts_nil _) (bts_nil _)).mono ?_; rintro e w16 ⟨rfl, b16⟩; have Y16 := below_trans Y15 b16; have t16 := Go.Joins.tab_stays gTab t14 (below_trans b15 b16) (Nat.le_refl _))
      | (go_at_call 11; refine (show167 w16 t16).mono ?_; rintro e w17 ⟨rfl, b17⟩; have Y17 := below_trans Y16 b17))
  go_wp2_with fail
  go_ret
  exact ⟨rfl, below_trans B14 (below_trans b15 (below_trans b16 b17))⟩
end Go.Proofs.YtkclbmhhlpdcnaaDoor
