/- OctetCrcs: for all bytes and places of bits the call returns true: the CRC is what its register comes to, and a bit that is turned turns it. No condition. -/
import Derived.Test.YtcbhfdhnggdgbabRcrc
import Derived.Test.YtcbhfdhnggdgbabCopy
namespace Go.Proofs.Ytcbhfdhnggdgbab.octetCrcs
open Go.ChangeShapes Go.WideShapes Go.ChangeAt Go.RowKit

theorem u8_xor_nat' (a b : Nat) (ha : a < 256) (hb : b < 256) : bits .xor .u8 (a : Int) (b : Int) = ((a ^^^ b : Nat) : Int) := by
  have hx : a ^^^ b < 2 ^ 8 := Nat.xor_lt_two_pow (by omega) (by omega)
  have h1 : (BitVec.ofInt 8 (a : Int)).toNat = a := by
    rw [BitVec.ofInt_natCast, BitVec.toNat_ofNat]; exact Nat.mod_eq_of_lt (by omega)
  have h2 : (BitVec.ofInt 8 (b : Int)).toNat = b := by
    rw [BitVec.ofInt_natCast, BitVec.toNat_ofNat]; exact Nat.mod_eq_of_lt (by omega)
  show IntKind.u8.wrap ((BitVec.ofInt 8 (a : Int) ^^^ BitVec.ofInt 8 (b : Int)).toNat : Int) = _
  rw [BitVec.toNat_xor, h1, h2, IntKind.wrap_u8]
  omega

/-- A bit that is turned. -/
theorem xor_ne (a k : Nat) (hk : k ≠ 0) : a ^^^ k ≠ a := by
  intro h
  have : a ^^^ k = a ^^^ 0 := by simpa using h
  exact hk (xor_cancel_left _ _ _ this)

/-- What the law wants of the bytes with a bit turned. -/
theorem turned_ne (l : List Int) (hl : isBytes l) (q k : Nat) (hq : q < l.length) (hk0 : k ≠ 0) (hk : k < 256) :
    bits .xor .u8 (l.getD q 0) (k : Int) = (((l.getD q 0).toNat ^^^ k : Nat) : Int) ∧ isBytes (l.set q (((l.getD q 0).toNat ^^^ k : Nat) : Int)) ∧
      (crcV (l.set q (((l.getD q 0).toNat ^^^ k : Nat) : Int)) != crcV l) = true := by
  have hb := getD_byte l hl q
  generalize hz : l.getD q 0 = z at *
  obtain ⟨c, rfl⟩ := Int.eq_ofNat_of_zero_le hb.1
  rw [Int.toNat_natCast]
  have hc : c < 256 := by omega
  have hx : c ^^^ k < 256 := Nat.xor_lt_two_pow (n := 8) hc hk
  have hset : isBytes (l.set q ((c ^^^ k : Nat) : Int)) := by
    intro z hz
    rcases List.mem_or_eq_of_mem_set hz with h1 | rfl
    · exact hl z h1
    · omega
  refine ⟨u8_xor_nat' c k hc hk, hset, ?_⟩
  rw [bne_iff_ne]
  intro h
  have h1 := crcV_inj _ _ hset hl h
  refine crcL_set 4294967295 l q ((c ^^^ k : Nat) : Int) (by decide) hl (by omega) hq ?_ h1
  rw [hz]
  have := xor_ne c k hk0
  omega

set_option maxHeartbeats 2000000 in
theorem walk (v0 v1 : Value) (w : World) (V0 : IsBts w v0) (V1 : IsI64 w v1) :
    Calls Try.prog 4 #[v0, v1] w fun e w' => e = .returned (.bool true) ∧ Below w.heap.size w w' := by
  obtain ⟨l, ⟨a, cap, b, off, rfl, h2, h3, h4, h5, h6⟩, hr⟩ := V0
  obtain ⟨p, rfl, hp⟩ := V1
  by_cases g1 : 100000 < (l.length : Int)
  · go_enter Try.func4, Try.ntmps4
    go_wp2_with (go_at_call 5; refine (awake_any _).mono ?_; rintro e w1 ⟨rfl, hb1⟩)
    go_ret
    exact ⟨rfl, hb1⟩
  go_enter Try.func4, Try.ntmps4
  go_wp2_with fail
  refine (awake_any _).mono ?_
  rintro e w1 ⟨rfl, hb1⟩
  go_wp2_with fail
  refine (crc_any a b off l.length cap l _ h2 h3 rfl h4 h5 (h6.later hb1)).mono ?_
  rintro e w2 ⟨rfl, hb2⟩
  have g2 := below_trans hb1 hb2
  go_wp2_with fail
  refine (rcrc_any a b off l.length cap l _ h2 h3 rfl h4 h5 (h6.later g2)).mono ?_
  rintro e w3 ⟨rfl, rfl⟩
  clear hb1 hb2
  have e0 : (crcV l != crcV l) = false := by simp
  by_cases g3 : p < 0
  · go_wp2
    go_ret
    exact ⟨rfl, g2⟩
  by_cases g4 : (l.length : Int) ≤ p / 8
  · go_wp2
    go_ret
    exact ⟨rfl, g2⟩
  obtain ⟨q, hq⟩ : ∃ q : Nat, p / 8 = (q : Int) := Int.eq_ofNat_of_zero_le (by omega)
  have hql : q < l.length := by omega
  rcases h5 with rfl | hnil
  case inr => rw [hnil] at hql; simp at hql
  go_wp2_with fail
  refine (copy_any _ b off l.length cap l _ h2 rfl (.inl rfl) (h6.later g2) hr).mono ?_
  rintro e w4 ⟨v, rfl, hown, hb4⟩
  have g5 := below_trans g2 hb4
  have hbtv := hown.bts h4
  obtain ⟨G, capv, rfl, hcl, hfr, hst⟩ : ∃ G capv, v = .slice (some ⟨G, 0, none⟩) l.length capv ∧ w4.cell? ⟨G, q, none⟩ = some (.int .u8 (l.getD q 0)) ∧ w4.frozen? ⟨G, q, none⟩ = false ∧
      ∀ c : Int, isBytes (l.set q c) → Bts (w4.setCell ⟨G, q, none⟩ (.int .u8 c)) (.slice (some ⟨G, 0, none⟩) l.length capv) (l.set q c) ∧ Below w.heap.size w (w4.setCell ⟨G, q, none⟩ (.int .u8 c)) := by
    rcases hown.2 with ⟨_, h0⟩ | ⟨g, cp, cur, rfl, hbase, rest⟩
    · omega
    · have hown' : w4.ownsRow w3.heap.size 5 1 (.slice (some ⟨g, 0, none⟩) l.length cp) l.length (l.map (Value.int .u8)) := hown
      refine ⟨g, cp, rfl, ?_, hown'.frozenAt q, ?_⟩
      · rw [hown'.cellAt q (by omega)]; simp [List.getElem?_eq_getElem hql]
      · intro c hc
        constructor
        · have h := (hown'.stored q (.int .u8 c)).1
          rw [← List.map_set] at h
          have h' : Owns (w4.setCell ⟨g, q, none⟩ (.int .u8 c)) w3.heap.size (.slice (some ⟨g, 0, none⟩) l.length cp) (l.set q c) := by unfold Owns; rw [List.length_set]; exact h
          exact h'.bts hc
        · exact g5.setCell (Nat.le_trans g2.size hbase) _
  clear hown hb4 g2 hbtv
  have hzb := getD_byte l h4 q
  generalize hZ : l.getD q 0 = z at *
  have key : ∀ k : Nat, k ≠ 0 → k < 256 → bits .xor .u8 z (k : Int) = ((z.toNat ^^^ k : Nat) : Int) ∧ isBytes (l.set q ((z.toNat ^^^ k : Nat) : Int)) ∧ (crcV (l.set q ((z.toNat ^^^ k : Nat) : Int)) != crcV l) = true := by
    intro k k0 k1; have := turned_ne l h4 q k hql k0 k1; rw [hZ] at this; exact this
  have HK : Hid (∀ k : Nat, k ≠ 0 → k < 256 → bits .xor .u8 z (k : Int) = ((z.toNat ^^^ k : Nat) : Int) ∧ isBytes (l.set q ((z.toNat ^^^ k : Nat) : Int)) ∧ (crcV (l.set q ((z.toNat ^^^ k : Nat) : Int)) != crcV l) = true) := key
  have HT : Hid (∀ c : Int, isBytes (l.set q c) → Bts (w4.setCell ⟨G, q, none⟩ (.int .u8 c)) (.slice (some ⟨G, 0, none⟩) l.length capv) (l.set q c) ∧ Below w.heap.size w (w4.setCell ⟨G, q, none⟩ (.int .u8 c))) := hst
  clear key hst hZ
  have hr8 : p % 8 = 0 ∨ p % 8 = 1 ∨ p % 8 = 2 ∨ p % 8 = 3 ∨ p % 8 = 4 ∨ p % 8 = 5 ∨ p % 8 = 6 ∨ p % 8 = 7 := by omega
  have hpos : 0 ≤ p := by omega
  have hm : l.length ≤ maxLen := Nat.le_trans h2 h3
  rcases hr8 with h8 | h8 | h8 | h8 | h8 | h8 | h8 | h8
  · obtain ⟨x1, x2, x3⟩ := HK.out 1 (by decide) (by decide)
    have x1' : bits .xor .u8 z 1 = ((z.toNat ^^^ 1 : Nat) : Int) := x1
    obtain ⟨t1, t2⟩ := HT.out _ x2
    clear x1 HK HT
    generalize ((z.toNat ^^^ 1 : Nat) : Int) = c at *
    obtain ⟨aD, capD, bD, offD, eD, u2, u3, u4, u5, u6⟩ := t1
    simp only [Value.slice.injEq] at eD
    obtain ⟨rfl, -, rfl⟩ := eD
    go_wp2_with fail
    refine (crc_any _ bD offD l.length capv (l.set q c) _ (by rw [List.length_set] at u2; exact u2) u3 (by simp) u4 u5 u6).mono ?_
    rintro e w5 ⟨rfl, hb5⟩
    go_wp2
    go_ret
    exact ⟨rfl, below_trans t2 hb5⟩
  · obtain ⟨x1, x2, x3⟩ := HK.out 2 (by decide) (by decide)
    have x1' : bits .xor .u8 z 2 = ((z.toNat ^^^ 2 : Nat) : Int) := x1
    obtain ⟨t1, t2⟩ := HT.out _ x2
    clear x1 HK HT
    generalize ((z.toNat ^^^ 2 : Nat) : Int) = c at *
    obtain ⟨aD, capD, bD, offD, eD, u2, u3, u4, u5, u6⟩ := t1
    simp only [Value.slice.injEq] at eD
    obtain ⟨rfl, -, rfl⟩ := eD
    go_wp2_with fail
    refine (crc_any _ bD offD l.length capv (l.set q c) _ (by rw [List.length_set] at u2; exact u2) u3 (by simp) u4 u5 u6).mono ?_
    rintro e w5 ⟨rfl, hb5⟩
    go_wp2
    go_ret
    exact ⟨rfl, below_trans t2 hb5⟩
  · obtain ⟨x1, x2, x3⟩ := HK.out 4 (by decide) (by decide)
    have x1' : bits .xor .u8 z 4 = ((z.toNat ^^^ 4 : Nat) : Int) := x1
    obtain ⟨t1, t2⟩ := HT.out _ x2
    clear x1 HK HT
    generalize ((z.toNat ^^^ 4 : Nat) : Int) = c at *
    obtain ⟨aD, capD, bD, offD, eD, u2, u3, u4, u5, u6⟩ := t1
    simp only [Value.slice.injEq] at eD
    obtain ⟨rfl, -, rfl⟩ := eD
    go_wp2_with fail
    refine (crc_any _ bD offD l.length capv (l.set q c) _ (by rw [List.length_set] at u2; exact u2) u3 (by simp) u4 u5 u6).mono ?_
    rintro e w5 ⟨rfl, hb5⟩
    go_wp2
    go_ret
    exact ⟨rfl, below_trans t2 hb5⟩
  · obtain ⟨x1, x2, x3⟩ := HK.out 8 (by decide) (by decide)
    have x1' : bits .xor .u8 z 8 = ((z.toNat ^^^ 8 : Nat) : Int) := x1
    obtain ⟨t1, t2⟩ := HT.out _ x2
    clear x1 HK HT
    generalize ((z.toNat ^^^ 8 : Nat) : Int) = c at *
    obtain ⟨aD, capD, bD, offD, eD, u2, u3, u4, u5, u6⟩ := t1
    simp only [Value.slice.injEq] at eD
    obtain ⟨rfl, -, rfl⟩ := eD
    go_wp2_with fail
    refine (crc_any _ bD offD l.length capv (l.set q c) _ (by rw [List.length_set] at u2; exact u2) u3 (by simp) u4 u5 u6).mono ?_
    rintro e w5 ⟨rfl, hb5⟩
    go_wp2
    go_ret
    exact ⟨rfl, below_trans t2 hb5⟩
  · obtain ⟨x1, x2, x3⟩ := HK.out 16 (by decide) (by decide)
    have x1' : bits .xor .u8 z 16 = ((z.toNat ^^^ 16 : Nat) : Int) := x1
    obtain ⟨t1, t2⟩ := HT.out _ x2
    clear x1 HK HT
    generalize ((z.toNat ^^^ 16 : Nat) : Int) = c at *
    obtain ⟨aD, capD, bD, offD, eD, u2, u3, u4, u5, u6⟩ := t1
    simp only [Value.slice.injEq] at eD
    obtain ⟨rfl, -, rfl⟩ := eD
    go_wp2_with fail
    refine (crc_any _ bD offD l.length capv (l.set q c) _ (by rw [List.length_set] at u2; exact u2) u3 (by simp) u4 u5 u6).mono ?_
    rintro e w5 ⟨rfl, hb5⟩
    go_wp2
    go_ret
    exact ⟨rfl, below_trans t2 hb5⟩
  · obtain ⟨x1, x2, x3⟩ := HK.out 32 (by decide) (by decide)
    have x1' : bits .xor .u8 z 32 = ((z.toNat ^^^ 32 : Nat) : Int) := x1
    obtain ⟨t1, t2⟩ := HT.out _ x2
    clear x1 HK HT
    generalize ((z.toNat ^^^ 32 : Nat) : Int) = c at *
    obtain ⟨aD, capD, bD, offD, eD, u2, u3, u4, u5, u6⟩ := t1
    simp only [Value.slice.injEq] at eD
    obtain ⟨rfl, -, rfl⟩ := eD
    go_wp2_with fail
    refine (crc_any _ bD offD l.length capv (l.set q c) _ (by rw [List.length_set] at u2; exact u2) u3 (by simp) u4 u5 u6).mono ?_
    rintro e w5 ⟨rfl, hb5⟩
    go_wp2
    go_ret
    exact ⟨rfl, below_trans t2 hb5⟩
  · obtain ⟨x1, x2, x3⟩ := HK.out 64 (by decide) (by decide)
    have x1' : bits .xor .u8 z 64 = ((z.toNat ^^^ 64 : Nat) : Int) := x1
    obtain ⟨t1, t2⟩ := HT.out _ x2
    clear x1 HK HT
    generalize ((z.toNat ^^^ 64 : Nat) : Int) = c at *
    obtain ⟨aD, capD, bD, offD, eD, u2, u3, u4, u5, u6⟩ := t1
    simp only [Value.slice.injEq] at eD
    obtain ⟨rfl, -, rfl⟩ := eD
    go_wp2_with fail
    refine (crc_any _ bD offD l.length capv (l.set q c) _ (by rw [List.length_set] at u2; exact u2) u3 (by simp) u4 u5 u6).mono ?_
    rintro e w5 ⟨rfl, hb5⟩
    go_wp2
    go_ret
    exact ⟨rfl, below_trans t2 hb5⟩
  · obtain ⟨x1, x2, x3⟩ := HK.out 128 (by decide) (by decide)
    have x1' : bits .xor .u8 z 128 = ((z.toNat ^^^ 128 : Nat) : Int) := x1
    obtain ⟨t1, t2⟩ := HT.out _ x2
    clear x1 HK HT
    generalize ((z.toNat ^^^ 128 : Nat) : Int) = c at *
    obtain ⟨aD, capD, bD, offD, eD, u2, u3, u4, u5, u6⟩ := t1
    simp only [Value.slice.injEq] at eD
    obtain ⟨rfl, -, rfl⟩ := eD
    go_wp2_with fail
    refine (crc_any _ bD offD l.length capv (l.set q c) _ (by rw [List.length_set] at u2; exact u2) u3 (by simp) u4 u5 u6).mono ?_
    rintro e w5 ⟨rfl, hb5⟩
    go_wp2
    go_ret
    exact ⟨rfl, below_trans t2 hb5⟩

set_option maxRecDepth 100000 in
theorem lifted (os : Os) (started : os.Started) (H : Type) (enc : TypeId × Value → H) :
    ReturnsInHanded {} Try.checked os 4 .any (Rows.octetCrcsSpec.pre6 enc Try.prog Try.f4 Rows.octetCrcsRow.domain false) (Rows.octetCrcsSpec.post enc Try.prog Try.f4 false true false false) := by
  refine returnsInHanded_of_change_sized (C := Try.checked) own started (by kernel_rfl) Try.func4
    (ChangeSpec.witness6 (enc := enc) (C := Try.checked) false ⟨#[], #[.slice none 0 0, .int .i64 0], []⟩ 8 (by kernel_rfl) (by kernel_rfl) (by kernel_rfl) (by kernel_rfl)) ?_
  intro W base args ds gs before hval0 hW hcnd hsz0 _
  have hval : ∀ (j : Nat) t v, Try.f4.params[j]? = some t → args[j]? = some v → Value.okWide Try.prog W .any base t v := hval0
  have hsz : ∀ n ∈ DataW.weightsEach Try.prog (Try.f4.params.toList ++ Rows.octetCrcsSpec.plain.varTypes Try.prog) (ds ++ gs), n ≤ reachBytes := fun n hn => by simpa using List.all_eq_true.1 hsz0 n hn
  have hW' := hW
  obtain ⟨p, q, hA0, hV, rfl, hfz, hnd⟩ := hW
  have hA : DataW.TrodAll enc Try.prog W 0 (fun _ => true) true Try.f4.params.toList args.toList ds p := hA0
  rw [Try.params4] at hA hval hsz
  obtain ⟨v0, vs0, d0, ds0, p0, q0, hargs, rfl, rfl, h0, r0⟩ := trodAll_cons hA
  obtain ⟨v1, vs1, d1, ds1, p1, q1, rfl, rfl, rfl, h1, r1⟩ := trodAll_cons r0
  obtain ⟨rfl, rfl, rfl⟩ := trodAll_nil r1
  obtain rfl : args = #[v0, v1] := by cases args; simp_all
  obtain ⟨rfl, rfl⟩ := trodVars_none hV
  have lt0 : ∀ x ∈ p0, x.block < W.heap.size := by obtain ⟨m, hm⟩ := h0; exact DataW.trod_lt m _ _ _ hm
  have V0 := view26 (hval 0 22 v0 rfl rfl) h0 (fun n hn => hsz n (DataW.weights_mem_each (j := 0) rfl rfl n hn))
  have lt1 : ∀ x ∈ p1, x.block < W.heap.size := by obtain ⟨m, hm⟩ := h1; exact DataW.trod_lt m _ _ _ hm
  have V1 := view3 (hval 1 3 v1 rfl rfl) h1 (fun n hn => hsz n (DataW.weights_mem_each (j := 1) rfl rfl n hn))
  clear hA0 hval0 hsz0 hsz
  refine (walk v0 v1 W V0 V1).mono fun e W' ⟨he, bel⟩ => ?_
  subst he
  exact ⟨_, rfl, _, _, _, [], _, [], hW', trodAll_mk1 (shut_bool Try.underlying4 _), (trodAll_cons_mk (Below.trod laidOut (by kernel_rfl) (of_decide_eq_true (by kernel_rfl)) h0 bel lt0) (trodAll_cons_mk (Below.trod laidOut (by kernel_rfl) (of_decide_eq_true (by kernel_rfl)) h1 bel lt1) trodAll_mk0)), rfl, bel.frame _, fun h => by cases h⟩

theorem over : Rows.octetCrcsRow.holds Try.pinned (OpenSpec.ofChange Rows.octetCrcsSpec) :=
  OpenClaim.holds_of_wide 4 Try.f4 rfl rfl rfl rfl rfl rfl rfl ⟨rfl, rfl, rfl, rfl, rfl⟩ rfl rfl rfl rfl rfl (by kernel_rfl) Try.func4 (by kernel_rfl)
    (of_decide_eq_true (by kernel_rfl)) (by unfold Func.isWrapper; first | (rw [if_pos (by decide +kernel)]; kernel_rfl) | (rw [if_neg (by decide +kernel)]; exact ⟨rfl, rfl⟩))
    (fun os started H enc _ => lifted os started H enc)

end Go.Proofs.Ytcbhfdhnggdgbab.octetCrcs
namespace Go.Proofs.Ytcbhfdhnggdgbab
theorem octetCrcs_holds : Rows.OctetCrcsSaid := octetCrcs.over
#print axioms octetCrcs_holds
end Go.Proofs.Ytcbhfdhnggdgbab
