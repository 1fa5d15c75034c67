/- The contract of BuildDatagram, the document's own answer. -/
import Derived.Test.YtdejjokgchbgnaaUdpBuild
import Derived.Test.YtdejjokgchbgnaaRin3
set_option maxRecDepth 100000
namespace Go.Proofs.Ytdejjokgchbgnaa
open Go.RowKit

theorem urbuild_src (s d : Int) (u : Ud) (a : Option Addr) (c : Nat) (w : World) (h : ¬ inB u.src 65535) :
    Calls Try.prog 19 #[.int .u32 s, .int .u32 d, udV u (.slice a u.data.length c)] w fun e w' => e = .returned (.tuple #[.slice none 0 0, .int .i64 1]) ∧ Below w.heap.size w w' := by
  have g0 : inBb u.src 65535 = false := decide_eq_false h
  go_enter Try.func19, Try.ntmps19
  go_wp2_with (first | (go_at_call 37; refine (rin_any _ _ _).mono ?_; rintro e w' ⟨rfl, rfl⟩))
  go_ret2
  exact ⟨rfl, below_alloc _ _⟩

theorem urbuild_dst (s d : Int) (u : Ud) (a : Option Addr) (c : Nat) (w : World) (h0 : inB u.src 65535) (h : ¬ inB u.dst 65535) :
    Calls Try.prog 19 #[.int .u32 s, .int .u32 d, udV u (.slice a u.data.length c)] w fun e w' => e = .returned (.tuple #[.slice none 0 0, .int .i64 1]) ∧ Below w.heap.size w w' := by
  have g0 : inBb u.src 65535 = true := decide_eq_true h0
  have g1 : inBb u.dst 65535 = false := decide_eq_false h
  go_enter Try.func19, Try.ntmps19
  go_wp2_with (first | (go_at_call 37; refine (rin_any _ _ _).mono ?_; rintro e w' ⟨rfl, rfl⟩))
  go_ret2
  exact ⟨rfl, below_alloc _ _⟩

theorem urbuild_long (s d : Int) (u : Ud) (a : Option Addr) (c : Nat) (w : World) (h0 : inB u.src 65535) (h1 : inB u.dst 65535) (h : 2020 < u.data.length) :
    Calls Try.prog 19 #[.int .u32 s, .int .u32 d, udV u (.slice a u.data.length c)] w fun e w' => e = .returned (.tuple #[.slice none 0 0, .int .i64 3]) ∧ Below w.heap.size w w' := by
  have g0 : inBb u.src 65535 = true := decide_eq_true h0
  have g1 : inBb u.dst 65535 = true := decide_eq_true h1
  have g2 : (2020 : Int) < (u.data.length : Int) := by omega
  go_enter Try.func19, Try.ntmps19
  go_wp2_with (first | (go_at_call 37; refine (rin_any _ _ _).mono ?_; rintro e w' ⟨rfl, rfl⟩))
  go_ret2
  exact ⟨rfl, below_alloc _ _⟩

theorem urbuild_no (s d : Int) (u : Ud) (a : Option Addr) (c : Nat) (w : World) (h : ¬ buildU u = 0) :
    Calls Try.prog 19 #[.int .u32 s, .int .u32 d, udV u (.slice a u.data.length c)] w fun e w' => e = .returned (.tuple #[.slice none 0 0, .int .i64 (buildU u)]) ∧ Below w.heap.size w w' := by
  obtain ⟨E, hE⟩ : ∃ E, buildU u = E := ⟨_, rfl⟩
  rw [hE] at h ⊢
  unfold buildU at hE
  by_cases h0 : inB u.src 65535
  case neg => rw [if_pos h0] at hE; subst hE; exact urbuild_src s d u a c w h0
  rw [if_neg (by simpa using h0)] at hE
  by_cases h1 : inB u.dst 65535
  case neg => rw [if_pos h1] at hE; subst hE; exact urbuild_dst s d u a c w h0 h1
  rw [if_neg (by simpa using h1)] at hE
  by_cases h2 : 2020 < u.data.length
  · rw [if_pos h2] at hE; subst hE; exact urbuild_long s d u a c w h0 h1 h2
  rw [if_neg h2] at hE
  exact absurd hE.symm h

theorem uset67 (u : Ud) (x : Int) (h0 : 0 ≤ x) (h1 : x ≤ 65535) (m : List Int) : ((headU u 0 ++ m).set 6 (x / 256)).set 7 (x % 256) = headU u x ++ m := by
  have e : x / 256 % 256 = x / 256 := by omega
  simp [headU, e]

set_option maxRecDepth 100000 in
set_option maxHeartbeats 4000000 in
theorem urbuild_ok (s d : Int) (u : Ud) (a : Option Addr) (c : Nat) (w : World) (s0 : 0 ≤ s) (s1 : s < 4294967296) (t0 : 0 ≤ d) (t1 : d < 4294967296) (f : UFits u) (hD : Bts w (.slice a u.data.length c) u.data) :
    Calls Try.prog 19 #[.int .u32 s, .int .u32 d, udV u (.slice a u.data.length c)] w fun e w' =>
      ∃ v, e = .returned (.tuple #[v, .int .i64 0]) ∧ Bts w' v (builtU s d u) ∧ Below w.heap.size w w' := by
  have g0 : inBb u.src 65535 = true := decide_eq_true f.src
  have g1 : inBb u.dst 65535 = true := decide_eq_true f.dst
  obtain ⟨⟨p0, p1⟩, ⟨q0, q1⟩, hlen⟩ := f
  have g2 : ¬ (2020 : Int) < (u.data.length : Int) := by omega
  have HBt : Hid (isBytes u.data) := hD.bytes
  obtain ⟨da, dc, db, dof, hde, hd2, hd3, hd4, hd5, hd6⟩ := hD
  simp only [Value.slice.injEq, true_and] at hde
  obtain ⟨rfl, rfl⟩ := hde
  go_enter Try.func19, Try.ntmps19
  go_wp2_with (first | (go_at_call 37; refine (rin_any _ _ _).mono ?_; rintro e w' ⟨rfl, rfl⟩))
  obtain ⟨w0, hw0⟩ : ∃ w0, w0 = w.alloc (.cells (udC u (.slice a u.data.length c)) 49) := ⟨_, rfl⟩
  rw [← hw0]
  have hsz0 : w0.heap.size = w.heap.size + 1 := by rw [hw0]; simp
  have hbw0 : Below w.heap.size w w0 := by rw [hw0]; exact below_alloc _ _
  have HC : Hid (∀ (w' : World), Below (w.heap.size + 1) w0 w' → ∀ i v, (udC u (.slice a u.data.length c))[i]? = some v → w'.cell? ⟨w.heap.size, i, none⟩ = some v) := by
    intro w' hb i v hv
    rw [hb.cell (by show w.heap.size < w.heap.size + 1; omega), hw0, World.cell?_alloc_mark w _ _ (0, 0) i]
    exact hv
  clear hw0
  refine (lay_any w0 (w.heap.size + 1) (.slice none 0 0) [] 2 2 u.src w0 (World.ownsRow_nil _ _ _ _) (by omega) (by simp) rfl (by decide) (Below.refl _ _)).mono ?_
  rintro e w1 ⟨v1, rfl, ho1, hb1, hz1⟩
  have d1 : w1.cell? ⟨w.heap.size, 1, none⟩ = some (.int .i64 u.dst) := HC.out w1 hb1 1 _ rfl
  go_wp2_with fail
  refine (lay_any w1 (w.heap.size + 1) v1 _ 2 2 u.dst w0 ho1 hz1 (by simp [bytesOfN]) rfl (by decide) hb1).mono ?_
  rintro e w2' ⟨v2, rfl, ho2, hb2, hz2⟩
  clear ho1 hb1 hz1 d1
  go_wp2_with fail
  refine (lay_any w2' (w.heap.size + 1) v2 _ 2 2 (8 + (u.data.length : Int)) w0 ho2 hz2 (by simp [bytesOfN]) rfl (by decide) hb2).mono ?_
  rintro e w3 ⟨v3, rfl, ho3, hb3, hz3⟩
  clear ho2 hb2 hz2
  obtain ⟨v4, w4, hrun4, ho4', hb4'⟩ := append_bts (w3.alloc (.cells #[.int .u8 0, .int .u8 0] 5)) (w.heap.size + 1) v3 _ _ _ (World.ownsRow.alloc ho3 _) ((owns_lit2 w3 0 0).bts (by intro z hz; simp at hz; omega)) (by simp; omega) (by simp [bytesOfN])
  have hb4 : Below (w.heap.size + 1) w0 w4 := (hb3.alloc hz3 _).trans hb4'
  have hz4 : w.heap.size + 1 ≤ w4.heap.size := by have := hb4'.size; simp only [World.size_alloc] at this; omega
  have ho4 : Owns w4 (w.heap.size + 1) v4 (headU u 0) := ho4'
  clear ho3 hb3 hb4' ho4'
  go_wp2_with (at_builtin; refine Lib.wpList_append_run_sl _ rfl _ _ 23 rfl _ _ rfl rfl hrun4 ?_)
  clear hrun4 hz3
  go_loopw [9, 10] (fun v i wr => ∃ t : Nat, t ≤ u.data.length ∧ i = .int .i64 (t : Int) ∧ Owns wr (w.heap.size + 1) v (headU u 0 ++ u.data.take t) ∧ Below (w.heap.size + 1) w0 wr ∧ w.heap.size + 1 ≤ wr.heap.size) (fun _ i _ => u.data.length - (intOf i).toNat)
  case atStart => exact ⟨0, Nat.zero_le _, rfl, by simpa using ho4, hb4, hz4⟩
  case round =>
    obtain ⟨t, ht, rfl, hown, hbel, hsz⟩ := hrel
    clear ho4 hb4 hz4
    have d3 : wr.cell? ⟨w.heap.size, 3, none⟩ = some (.slice a u.data.length c) := HC.out wr hbel 3 _ rfl
    by_cases hlt : t < u.data.length
    · rcases hd5 with rfl | hnil
      case inr => rw [hnil] at hlt; simp at hlt
      have hbwr : Below w.heap.size w wr := hbw0.trans (hbel.mono (by omega))
      have hcell : wr.cell? ⟨db, dof + t, none⟩ = some (.int .u8 (u.data.getD t 0)) := cell_later hbwr (hd6 t hlt)
      have hts : Hid (headU u 0 ++ u.data.take (t + 1) = (headU u 0 ++ u.data.take t) ++ [u.data.getD t 0]) := by show _ = _; rw [take_snoc u.data t hlt, List.append_assoc]
      obtain ⟨v', w1', hrun, ho, hb⟩ := append_one wr (w.heap.size + 1) _ _ (u.data.getD t 0) hown hsz (by rw [List.length_append, List.length_take, headU_length]; omega)
      have htb : (t : Int) < (u.data.length : Int) := by omega
      have R1 : Owns w1' (w.heap.size + 1) v' (headU u 0 ++ u.data.take (t + 1)) := by rw [hts.out]; exact ho
      have R2 := hbel.trans hb
      have R3 := Nat.le_trans hsz hb.size
      clear hts ho hb
      generalize u.data.getD t 0 = c at *
      go_wp2_with (at_builtin; refine Lib.wpList_append_run_sl _ rfl _ _ 23 rfl _ _ rfl rfl hrun ?_)
      go_roundw
      case rel => exact ⟨t + 1, by omega, by go_num, R1, R2, R3⟩
      case measure => simp [intOf]; omega
    · have hte : t = u.data.length := by omega
      subst hte
      rw [List.take_length] at hown
      have hbytes : isBytes (headU u 0 ++ u.data) := isBytes_append (headU_bytes u 0) HBt.out
      have d2 : wr.cell? ⟨w.heap.size, 2, none⟩ = some (.bool u.bare) := HC.out wr hbel 2 _ rfl
      have hbwr : Below w.heap.size w wr := hbw0.trans (hbel.mono (by omega))
      cases hu : u.bare
      case true =>
        rw [hu] at d2
        have hB := hown.bts hbytes
        have e : headU u 0 ++ u.data = builtU s d u := by unfold builtU; rw [(fieldU_bare s d u).2 hu]
        rw [e] at hB
        clear e
        clear hown hbytes
        go_wp2
        go_ret2
        exact ⟨_, rfl, hB, hbwr⟩
      case false =>
        rw [hu] at d2
        have HU : Hid (u.bare = false) := hu
        clear hu
        obtain ⟨G, cg, rfl, hH⟩ := holds8_of_owns hown (len := 8 + u.data.length) (by rw [List.length_append, headU_length]) (by omega)
        have hBo := hown.bts hbytes
        clear hown hbytes
        go_wp2_with fail
        refine (rpseudo_any s d 17 (8 + (u.data.length : Int)) _ s0 s1 t0 t1).mono ?_
        rintro e w5 ⟨v5, rfl, hP, hb5⟩
        have hBo5 := hBo.later hb5
        have hH5 := hH.later hb5
        obtain ⟨a5, n5, c5, rfl⟩ := hP.shape
        go_wp2_with fail
        refine (rsum2 w5 _ _ _ (pseudoB s d 17 (8 + (u.data.length : Int))) (headU u 0 ++ u.data) 23 (by simp) hP hBo5 (by rw [pseudo_length, List.length_append, headU_length]; omega)).mono ?_
        rintro e w6 ⟨rfl, rfl⟩
        have bx := below_alloc w5 (.cells #[.slice a5 n5 c5, .slice (some ⟨G, 0, none⟩) (8 + u.data.length) cg] 23)
        have hH6 := hH5.later bx
        have hb6 : Below (w.heap.size + 1) w0 _ := hbel.trans ((below_trans hb5 bx).mono hsz)
        generalize (w5.alloc (.cells #[.slice a5 n5 c5, .slice (some ⟨G, 0, none⟩) (8 + u.data.length) cg] 23)) = w6 at *
        have HFE : Hid (fieldU s d u = shownI (65535 - fold16 (ws (pseudoB s d 17 (8 + (u.data.length : Int)) ++ (headU u 0 ++ u.data))))) := by
          show _ = _
          unfold fieldU
          rw [if_neg (by simp [HU.out])]
          unfold checkU
          rw [turn_fold]
          rfl
        have hS := fold16_bd (ws (pseudoB s d 17 (8 + (u.data.length : Int)) ++ (headU u 0 ++ u.data)))
        generalize fold16 (ws (pseudoB s d 17 (8 + (u.data.length : Int)) ++ (headU u 0 ++ u.data))) = S at *
        clear hP hBo hBo5 hH hH5 hb5 bx hbwr d2 d3 hbel
        have hG := hH6.base
        have c6 := hH6.cell 6 (by omega)
        have c7 := hH6.cell 7 (by omega)
        have f6 := hH6.2.frozenAt 6
        have f7 := hH6.2.frozenAt 7
        have i6 : (6 : Int) < 8 + (u.data.length : Int) := by omega
        have i7 : (7 : Int) < 8 + (u.data.length : Int) := by omega
        obtain ⟨S0, S1⟩ := hS
        by_cases hSS : S = 65535
        · subst hSS
          have HFV : Hid (fieldU s d u = 65535) := HFE.out
          clear HFE
          have hHf := (hH6.store 6 255).store 7 255
          have hbf : Below (w.heap.size + 1) w0 ((w6.setCell ⟨G, 6, none⟩ (.int .u8 255)).setCell ⟨G, 7, none⟩ (.int .u8 255)) := (hb6.setCell (by exact hG) _).setCell (by exact hG) _
          have hBf : Bts ((w6.setCell ⟨G, 6, none⟩ (.int .u8 255)).setCell ⟨G, 7, none⟩ (.int .u8 255)) (.slice (some ⟨G, 0, none⟩) (8 + u.data.length) cg) (builtU s d u) := by
            have e := uset67 u 65535 (by decide) (by decide) u.data
            have e' : ((headU u 0 ++ u.data).set 6 255).set 7 255 = headU u 65535 ++ u.data := e
            rw [e'] at hHf
            unfold builtU
            rw [HFV.out]
            exact hHf.owns.bts (isBytes_append (headU_bytes u _) HBt.out)
          clear hH6 hHf
          go_wp2
          go_ret2
          exact ⟨_, rfl, hBf, hbw0.trans (hbf.mono (by omega))⟩
        · have HFV : Hid (fieldU s d u = 65535 - S) := by show _ = _; rw [HFE.out]; unfold shownI; rw [if_neg (by omega)]
          clear HFE
          have hne : ¬ (65535 - S = 0) := by omega
          have hC0 : 0 ≤ 65535 - S := by omega
          have hHf := (hH6.store 6 ((65535 - S) / 256)).store 7 ((65535 - S) % 256)
          have hbf : Below (w.heap.size + 1) w0 ((w6.setCell ⟨G, 6, none⟩ (.int .u8 ((65535 - S) / 256))).setCell ⟨G, 7, none⟩ (.int .u8 ((65535 - S) % 256))) := (hb6.setCell (by exact hG) _).setCell (by exact hG) _
          have hBf : Bts ((w6.setCell ⟨G, 6, none⟩ (.int .u8 ((65535 - S) / 256))).setCell ⟨G, 7, none⟩ (.int .u8 ((65535 - S) % 256))) (.slice (some ⟨G, 0, none⟩) (8 + u.data.length) cg) (builtU s d u) := by
            rw [uset67 u (65535 - S) hC0 (by omega) u.data] at hHf
            unfold builtU
            rw [HFV.out]
            exact hHf.owns.bts (isBytes_append (headU_bytes u _) HBt.out)
          clear hH6 hHf
          go_wp2
          go_ret2
          exact ⟨_, rfl, hBf, hbw0.trans (hbf.mono (by omega))⟩
end Go.Proofs.Ytdejjokgchbgnaa
