/- OctetPuts: for all bytes, places, lengths and numbers the call returns true: a number that is laid is read again, all other bytes stay, and what was handed in stays. No condition. -/
import Derived.Test.YtcbhfdhnggdgbaaPut
namespace Go.Proofs.Ytcbhfdhnggdgbaa.octetPuts
open Go.ChangeShapes Go.WideShapes Go.ChangeAt Go.RowKit

theorem mask (i : Nat) (hi : i ≤ 64) (x : Int) (h0 : 0 ≤ x) (h1 : x < 18446744073709551616) : bits .and .u64 x (2 ^ i - 1) = x % 2 ^ i :=
  bits_mask .u64 64 (by decide) (fun n a b => u64_id n a b) i hi x h0 h1

theorem same_refl (l : List Int) : sameB l l = true := by unfold sameB; simp

/-- The cells of a Spot that was boxed. -/
theorem spot_cells {w w' : World} {a b c d : Value} {t : TypeId} (hb : Below (w.alloc (.cells #[a, b, c, d] t)).heap.size (w.alloc (.cells #[a, b, c, d] t)) w') :
    w'.cell? ⟨w.heap.size, 0, none⟩ = some a ∧ w'.cell? ⟨w.heap.size, 1, none⟩ = some b ∧ w'.cell? ⟨w.heap.size, 2, none⟩ = some c ∧ w'.cell? ⟨w.heap.size, 3, none⟩ = some d :=
  ⟨cell_later hb (by simp), cell_later hb (by simp), cell_later hb (by simp), cell_later hb (by simp)⟩

set_option maxHeartbeats 2000000 in
theorem walk_no (a : Option Addr) (b off cap : Nat) (l : List Int) (p n x : Int) (w : World) (h2 : l.length ≤ cap) (h3 : cap ≤ maxLen) (h4 : isBytes l) (h5 : a = some ⟨b, off, none⟩ ∨ l = []) (h6 : Sees w b off l)
    (hr : l.length ≤ 140737488351232) (hh : holdsB l.length p n = false) :
    Calls Try.prog 5 #[.agg #[.slice a l.length cap, .int .i64 p, .int .i64 n, .int .u64 x]] w fun e w' => e = .returned (.bool true) ∧ Below w.heap.size w w' := by
  have e1 := same_refl ([] : List Int)
  have e2 := same_refl l
  have hm : l.length ≤ maxLen := Nat.le_trans h2 h3
  go_enter Try.func5, Try.ntmps5
  go_wp2_with fail
  refine (awake_any _).mono ?_
  rintro e w1 ⟨rfl, hb1⟩
  obtain ⟨c0, c1, c2, c3⟩ := spot_cells hb1
  have g1 := below_trans (below_alloc w _) hb1
  go_wp2_with fail
  refine (copy_any a b off l.length cap l _ h2 rfl h5 (h6.later g1) hr).mono ?_
  rintro e w2 ⟨v, rfl, hown, hb2⟩
  have hb2' := below_trans hb1 hb2
  clear c0 c1 c2 c3
  obtain ⟨c0, c1, c2, c3⟩ := spot_cells hb2'
  have g2 := below_trans g1 hb2
  obtain ⟨av, capv, bv, offv, rfl, q2, q3, q4, q5, q6⟩ := hown.bts h4
  clear hown hb1 hb2 hb2' g1
  go_wp2_with fail
  refine (put_no a l.length cap p n x _ hm hh).mono ?_
  rintro e w3 ⟨rfl, rfl⟩
  go_wp2_with fail
  refine (rput_no a l.length cap p n x _ hm hh).mono ?_
  rintro e w4 ⟨rfl, rfl⟩
  go_wp2_with fail
  refine (same_any none none 0 0 0 0 0 0 [] [] 0 0 _ rfl rfl (by decide) (by decide) (.inr rfl) (fun i hi => by simp at hi) (.inr rfl) (fun i hi => by simp at hi)).mono ?_
  rintro e w5 ⟨rfl, n1, rfl⟩
  go_wp2_with fail
  refine (same_any av a bv offv b off capv cap l l l.length l.length _ rfl rfl hm hm q5 (by exact q6) h5 (h6.later (below_drewN g2 _))).mono ?_
  rintro e w6 ⟨rfl, n2, rfl⟩
  go_wp2
  go_ret
  exact ⟨rfl, below_drewN g2 _⟩

set_option maxHeartbeats 4000000 in
theorem walk_yes (b off cap : Nat) (l : List Int) (p n : Nat) (x : Int) (w : World) (h2 : l.length ≤ cap) (h3 : cap ≤ maxLen) (h4 : isBytes l) (h6 : Sees w b off l)
    (hr : l.length ≤ 140737488351232) (hn1 : 1 ≤ n) (hn2 : n ≤ 8) (hp : p + n ≤ l.length) (hx0 : 0 ≤ x) (hx1 : x < 18446744073709551616) :
    Calls Try.prog 5 #[.agg #[.slice (some ⟨b, off, none⟩) l.length cap, .int .i64 p, .int .i64 n, .int .u64 x]] w fun e w' => e = .returned (.bool true) ∧ Below w.heap.size w w' := by
  have e1 := same_refl (lay l p n x)
  have e2 := same_refl l
  have hm : l.length ≤ maxLen := Nat.le_trans h2 h3
  have HG : Hid (getV (lay l p n x) p n = x % 256 ^ n) := getV_lay l p n x hn1 hn2 hp
  have hhold : holdsB l.length p n = true := by unfold holdsB; simp; omega
  go_enter Try.func5, Try.ntmps5
  go_wp2_with fail
  refine (awake_any _).mono ?_
  rintro e w1 ⟨rfl, hb1⟩
  obtain ⟨c0, c1, c2, c3⟩ := spot_cells hb1
  have g1 := below_trans (below_alloc w _) hb1
  go_wp2_with fail
  refine (copy_any _ b off l.length cap l _ h2 rfl (.inl rfl) (h6.later g1) hr).mono ?_
  rintro e w2 ⟨v, rfl, hown, hb2⟩
  have hb2' := below_trans hb1 hb2
  clear c0 c1 c2 c3
  obtain ⟨c0, c1, c2, c3⟩ := spot_cells hb2'
  have g2 := below_trans g1 hb2
  obtain ⟨av, capv, bv, offv, rfl, q2, q3, q4, q5, q6⟩ := hown.bts h4
  clear hown hb1 hb2 g1
  go_wp2_with fail
  refine (put_yes b off l.length cap l p n x _ rfl (h6.later g2) hn1 hn2 hp hx0 hx1 hr).mono ?_
  rintro e w3 ⟨G, rfl, hH, hb3⟩
  have hb3' := below_trans hb2' hb3
  clear c0 c1 c2 c3
  obtain ⟨c0, c1, c2, c3⟩ := spot_cells hb3'
  have g3 := below_trans g2 hb3
  have q6 := q6.later hb3
  clear hb2' hb3 g2
  go_wp2_with fail
  refine (rput_yes b off l.length cap l p n x _ h2 rfl (h6.later g3) hn1 hn2 hp hx0 hx1 hr).mono ?_
  rintro e w4 ⟨G', cap', rfl, hH', hb4⟩
  have hb4' := below_trans hb3' hb4
  clear c0 c1 c2 c3
  obtain ⟨c0, c1, c2, c3⟩ := spot_cells hb4'
  have g4 := below_trans g3 hb4
  have q6 := q6.later hb4
  have hs1 : Sees w4 G 0 (lay l p n x) := fun i hi => by
    rw [Nat.zero_add]; exact cell_later hb4 (hH.cell i (by rw [lay_length] at hi; exact hi))
  have hs2 : Sees w4 G' 0 (lay l p n x) := fun i hi => by
    rw [Nat.zero_add]; exact hH'.cell i (by rw [lay_length] at hi; exact hi)
  clear hb3' hb4 g3 hH hH' hb4'
  have hly := lay_length l p n x
  have HLY : Hid ((lay l p n x).length = l.length) := hly
  have hbly := lay_bytes l p n x h4
  clear hly
  generalize hY : lay l p n x = Y at *
  clear hY
  go_wp2_with fail
  refine (same_any _ _ G 0 G' 0 _ _ Y Y l.length l.length _ HLY.out HLY.out hm hm (.inl rfl) hs1 (.inl rfl) hs2).mono ?_
  rintro e w5 ⟨rfl, n1, rfl⟩
  go_wp2_with fail
  refine (same_any av _ bv offv b off capv cap l l l.length l.length _ rfl rfl hm hm q5 (by exact q6) (.inl rfl) (h6.later (below_drewN g4 _))).mono ?_
  rintro e w6 ⟨rfl, n2, rfl⟩
  go_wp2_with fail
  refine (get_any _ G 0 l.length l.length Y p n _ (Nat.le_refl _) hm HLY.out hbly (.inl rfl) (by exact hs1)).mono ?_
  rintro e w7 ⟨rfl, rfl⟩
  rw [HG.out, hhold]
  clear h6 q6 hs1 hs2 HG HLY hhold
  have hcases : n = 1 ∨ n = 2 ∨ n = 3 ∨ n = 4 ∨ n = 5 ∨ n = 6 ∨ n = 7 ∨ n = 8 := by omega
  have m1 : bits .and .u64 x 255 = x % 256 := mask 8 (by decide) x hx0 hx1
  have m2 : bits .and .u64 x 65535 = x % 65536 := mask 16 (by decide) x hx0 hx1
  have m3 : bits .and .u64 x 16777215 = x % 16777216 := mask 24 (by decide) x hx0 hx1
  have m4 : bits .and .u64 x 4294967295 = x % 4294967296 := mask 32 (by decide) x hx0 hx1
  have m5 : bits .and .u64 x 1099511627775 = x % 1099511627776 := mask 40 (by decide) x hx0 hx1
  have m6 : bits .and .u64 x 281474976710655 = x % 281474976710656 := mask 48 (by decide) x hx0 hx1
  have m7 : bits .and .u64 x 72057594037927935 = x % 72057594037927936 := mask 56 (by decide) x hx0 hx1
  have e8 : x % 256 ^ 8 = x := by omega
  rcases hcases with rfl | rfl | rfl | rfl | rfl | rfl | rfl | rfl
  · clear m2 m3 m4 m5 m6 m7 e8
    go_wp2
    go_ret
    exact ⟨rfl, below_drewN g4 _⟩
  · clear m1 m3 m4 m5 m6 m7 e8
    go_wp2
    go_ret
    exact ⟨rfl, below_drewN g4 _⟩
  · clear m1 m2 m4 m5 m6 m7 e8
    go_wp2
    go_ret
    exact ⟨rfl, below_drewN g4 _⟩
  · clear m1 m2 m3 m5 m6 m7 e8
    go_wp2
    go_ret
    exact ⟨rfl, below_drewN g4 _⟩
  · clear m1 m2 m3 m4 m6 m7 e8
    go_wp2
    go_ret
    exact ⟨rfl, below_drewN g4 _⟩
  · clear m1 m2 m3 m4 m5 m7 e8
    go_wp2
    go_ret
    exact ⟨rfl, below_drewN g4 _⟩
  · clear m1 m2 m3 m4 m5 m6 e8
    go_wp2
    go_ret
    exact ⟨rfl, below_drewN g4 _⟩
  · clear m1 m2 m3 m4 m5 m6 m7
    rw [e8]
    clear e8
    go_wp2
    go_ret
    exact ⟨rfl, below_drewN g4 _⟩

theorem walk (v0 : Value) (w : World) (V0 : IsSpot w v0) :
    Calls Try.prog 5 #[v0] w fun e w' => e = .returned (.bool true) ∧ Below w.heap.size w w' := by
  obtain ⟨vb, l, p, n, x, rfl, ⟨⟨a, cap, b, off, rfl, h2, h3, h4, h5, h6⟩, hr⟩, -, -, hx0, hx1⟩ := V0
  cases hh : holdsB l.length p n
  · exact walk_no a b off cap l p n x w h2 h3 h4 h5 h6 hr hh
  · unfold holdsB at hh
    have hd := of_decide_eq_true hh
    obtain ⟨p', rfl⟩ := Int.eq_ofNat_of_zero_le hd.2.2.1
    obtain ⟨n', rfl⟩ := Int.eq_ofNat_of_zero_le (Int.le_trans (by decide) hd.1)
    rcases h5 with rfl | rfl
    · exact walk_yes b off cap l p' n' x w h2 h3 h4 h6 hr (by omega) (by omega) (by omega) hx0 hx1
    · simp at hd; omega

set_option maxRecDepth 100000 in
theorem lifted (os : Os) (started : os.Started) (H : Type) (enc : TypeId × Value → H) :
    ReturnsInHanded {} Try.checked os 5 .any (Rows.octetPutsSpec.pre6 enc Try.prog Try.f5 Rows.octetPutsRow.domain false) (Rows.octetPutsSpec.post enc Try.prog Try.f5 false true false false) := by
  refine returnsInHanded_of_change_sized (C := Try.checked) own started (by kernel_rfl) Try.func5
    (ChangeSpec.witness6 (enc := enc) (C := Try.checked) false ⟨#[], #[.agg #[.slice none 0 0, .int .i64 0, .int .i64 0, .int .u64 0]], []⟩ 8 (by kernel_rfl) (by kernel_rfl) (by kernel_rfl) (by kernel_rfl)) ?_
  intro W base args ds gs before hval0 hW hcnd hsz0 _
  have hval : ∀ (j : Nat) t v, Try.f5.params[j]? = some t → args[j]? = some v → Value.okWide Try.prog W .any base t v := hval0
  have hsz : ∀ n ∈ DataW.weightsEach Try.prog (Try.f5.params.toList ++ Rows.octetPutsSpec.plain.varTypes Try.prog) (ds ++ gs), n ≤ reachBytes := fun n hn => by simpa using List.all_eq_true.1 hsz0 n hn
  have hW' := hW
  obtain ⟨p, q, hA0, hV, rfl, hfz, hnd⟩ := hW
  have hA : DataW.TrodAll enc Try.prog W 0 (fun _ => true) true Try.f5.params.toList args.toList ds p := hA0
  rw [Try.params5] at hA hval hsz
  obtain ⟨v0, vs0, d0, ds0, p0, q0, hargs, rfl, rfl, h0, r0⟩ := trodAll_cons hA
  obtain ⟨rfl, rfl, rfl⟩ := trodAll_nil r0
  obtain rfl : args = #[v0] := by cases args; simp_all
  obtain ⟨rfl, rfl⟩ := trodVars_none hV
  have lt0 : ∀ x ∈ p0, x.block < W.heap.size := by obtain ⟨m, hm⟩ := h0; exact DataW.trod_lt m _ _ _ hm
  have V0 := view35 (hval 0 35 v0 rfl rfl) h0 (fun n hn => hsz n (DataW.weights_mem_each (j := 0) rfl rfl n hn))
  clear hA0 hval0 hsz0 hsz
  refine (walk v0 W V0).mono fun e W' ⟨he, bel⟩ => ?_
  subst he
  exact ⟨_, rfl, _, _, _, [], _, [], hW', trodAll_mk1 (shut_bool Try.underlying4 _), (trodAll_cons_mk (Below.trod laidOut (by kernel_rfl) (of_decide_eq_true (by kernel_rfl)) h0 bel lt0) trodAll_mk0), rfl, bel.frame _, fun h => by cases h⟩

theorem over : Rows.octetPutsRow.holds Try.pinned (OpenSpec.ofChange Rows.octetPutsSpec) :=
  OpenClaim.holds_of_wide 5 Try.f5 rfl rfl rfl rfl rfl rfl rfl ⟨rfl, rfl, rfl, rfl, rfl⟩ rfl rfl rfl rfl rfl (by kernel_rfl) Try.func5 (by kernel_rfl)
    (of_decide_eq_true (by kernel_rfl)) (by unfold Func.isWrapper; first | (rw [if_pos (by decide +kernel)]; kernel_rfl) | (rw [if_neg (by decide +kernel)]; exact ⟨rfl, rfl⟩))
    (fun os started H enc _ => lifted os started H enc)

end Go.Proofs.Ytcbhfdhnggdgbaa.octetPuts
namespace Go.Proofs.Ytcbhfdhnggdgbaa
theorem octetPuts_holds : Rows.OctetPutsSaid := octetPuts.over
#print axioms octetPuts_holds
end Go.Proofs.Ytcbhfdhnggdgbaa
