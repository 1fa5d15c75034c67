/- The contracts of behind, echoNumber, ports and Quote. -/
import Derived.Test.YtdejjokgchbgnaaFrameSmall
set_option maxRecDepth 100000
namespace Go.Proofs.Ytdejjokgchbgnaa
open Go.RowKit
attribute [local go_sem ↓] Go.wp_at_zero Go.wp_at_succ

@[reducible] def inV (x : Inn) : Value := .agg #[.int .i64 x.proto, .int .u32 x.sa, .int .i64 x.sp, .int .u32 x.da, .int .i64 x.dp]

theorem mask4_u (x : Int) (h0 : 0 ≤ x) (h1 : x < 256) : bits .and .i64 x 15 = x % 16 := mask_i64 4 (by decide) x h0 (by omega)

theorem mask13_u (x : Int) (h0 : 0 ≤ x) (h1 : x < 65536) : bits .and .u64 x 8191 = x % 8192 := bits_mask .u64 64 (by decide) u64_id 13 (by decide) x h0 (by omega)

/-- What stands behind the header. -/
theorem at_drop {w : World} {b off len cap : Nat} {l : List Int} (hA : At w b off len cap l) (h : Nat) (hh : h ≤ len) : At w b (off + h) (len - h) (cap - h) (l.drop h) := by
  have c1 := hA.cap1
  have c2 := hA.cap2
  refine ⟨by omega, by omega, by rw [List.length_drop, hA.len], fun z hz => hA.bytes z (List.mem_of_mem_drop hz), ?_⟩
  intro i hi
  rw [List.length_drop] at hi
  have := hA.sees (h + i) (by omega)
  rw [← Nat.add_assoc] at this
  rw [this]
  simp [List.getD]

theorem slice_behind (b off len cap : Nat) (x : Int) (p : Nat) (hx : x = (p : Int)) (hp : p < len) (hc : len ≤ cap) (W : World) :
    (Instr.slice 23 (.slice (some ⟨b, off, none⟩) len cap) (some (.int .i64 x)) none none).run Try.prog W = .ok (.slice (some ⟨b, off + p, none⟩) (len - p) (cap - p)) W := by
  subst hx
  have ht' : Try.prog.underlying 23 = some (.slice (Try.prog.elem 23)) := by simp [Program.elem, Try.underlying23]
  have he : Try.prog.elem 23 = 5 := by simp [Program.elem, Try.underlying23]
  rw [run_slice_l W 23 _ _ _ ht' .i64 _ (by omega) (by omega), he, Try.sizeOf5]
  have hc : ¬ cap = p := by omega
  simp [Result.andThen, sliced, hc, add_at]

theorem behind_short (a : Option Addr) (len cap : Nat) (w : World) (h : len < 20) :
    Calls Try.prog 34 #[.slice a len cap] w fun e w' => e = .returned (.tuple #[.slice none 0 0, .bool false]) ∧ w' = w := by
  have h' : (len : Int) < 20 := by omega
  go_enter Try.func34, Try.ntmps34
  go_wp2
  go_ret2
  exact ⟨rfl, rfl⟩

set_option maxHeartbeats 1000000 in
theorem behind_no (b off len cap : Nat) (l : List Int) (w : World) (hA : At w b off len cap l) (h20 : 20 ≤ len) (h : ¬ Head l) :
    Calls Try.prog 34 #[.slice (some ⟨b, off, none⟩) len cap] w fun e w' => e = .returned (.tuple #[.slice none 0 0, .bool false]) ∧ w' = w := by
  have h' : ¬ (len : Int) < 20 := by omega
  obtain ⟨x0, y0⟩ := b1_bd l hA.bytes 0
  have HL : Hid (l.length = len) := hA.len
  have hm := mask4_u (b1 l 0) x0 y0
  have hu : IntKind.i64.wrap (b1 l 0) = b1 l 0 := i64_id _ x0 (by omega)
  by_cases hv : b1 l 0 / 16 = 4
  · by_cases hd : hdOf l < 20
    · unfold hdOf at hd
      clear h
      go_enter Try.func34, Try.ntmps34
      go_wp2_with fail
      refine (fnumber1 b off len cap l 0 0 _ hA rfl (by omega)).mono ?_
      rintro e w' ⟨rfl, rfl⟩
      go_wp2
      go_ret2
      exact ⟨rfl, rfl⟩
    · have he : (len : Int) < hdOf l + 8 := by
        rcases Int.lt_or_le (len : Int) (hdOf l + 8) with k | k
        · exact k
        · exact absurd ⟨by rw [HL.out]; exact h20, hv, by omega, by rw [HL.out]; exact k⟩ h
      unfold hdOf at hd he
      clear h
      go_enter Try.func34, Try.ntmps34
      go_wp2_with fail
      refine (fnumber1 b off len cap l 0 0 _ hA rfl (by omega)).mono ?_
      rintro e w' ⟨rfl, rfl⟩
      go_wp2
      go_ret2
      exact ⟨rfl, rfl⟩
  · have hv' : (b1 l 0 / 16 != 4) = true := by rw [bne_iff_ne]; exact hv
    clear h hv
    go_enter Try.func34, Try.ntmps34
    go_wp2_with fail
    refine (fnumber1 b off len cap l 0 0 _ hA rfl (by omega)).mono ?_
    rintro e w' ⟨rfl, rfl⟩
    go_wp2
    go_ret2
    exact ⟨rfl, rfl⟩

set_option maxHeartbeats 1000000 in
theorem behind_ok (b off len cap h : Nat) (l : List Int) (w : World) (hA : At w b off len cap l) (hh : hdOf l = (h : Int)) (g : Head l) :
    Calls Try.prog 34 #[.slice (some ⟨b, off, none⟩) len cap] w fun e w' => e = .returned (.tuple #[.slice (some ⟨b, off + h, none⟩) (len - h) (cap - h), .bool true]) ∧ w' = w := by
  have HL := hA.len
  obtain ⟨g1, g2, g3, g4⟩ := g
  rw [HL] at g1 g4
  have h' : ¬ (len : Int) < 20 := by omega
  obtain ⟨x0, y0⟩ := b1_bd l hA.bytes 0
  have hm := mask4_u (b1 l 0) x0 y0
  have hu : IntKind.i64.wrap (b1 l 0) = b1 l 0 := i64_id _ x0 (by omega)
  have hv : (b1 l 0 / 16 != 4) = false := by rw [g2]; rfl
  have hc := hA.cap1
  have hs := fun W => slice_behind b off len cap (b1 l 0 % 16 * 4) h hh (by omega) hc W
  have hd : ¬ b1 l 0 % 16 * 4 < 20 := by unfold hdOf at g3; omega
  have he : ¬ (len : Int) < b1 l 0 % 16 * 4 + 8 := by unfold hdOf at g4; omega
  clear g1 g2 g3 g4 HL hh
  go_enter Try.func34, Try.ntmps34
  go_wp2_with fail
  refine (fnumber1 b off len cap l 0 0 _ hA rfl (by omega)).mono ?_
  rintro e w' ⟨rfl, rfl⟩
  clear hA
  go_wp2
  go_ret2
  exact ⟨rfl, rfl⟩

def echoN (m : List Int) : Int := if echoB m = true then w2 m 4 else 0

theorem echo_kind (m : List Int) : echoB m = true ↔ protoK (kindW (b1 m 0) (b1 m 1)) = 1 := by
  rw [proto_kind]; unfold echoB; simp

set_option maxHeartbeats 2000000 in
theorem echoNumber_any (b off len cap : Nat) (m : List Int) (w : World) (hA : At w b off len cap m) (h8 : 8 ≤ len) :
    Calls Try.prog 53 #[.slice (some ⟨b, off, none⟩) len cap] w fun e w' => e = .returned (.tuple #[.int .i64 (echoN m), .bool (echoB m)]) ∧ Below w.heap.size w w' := by
  have HB : Hid (isBytes m) := hA.bytes
  obtain ⟨x0, y0⟩ := b1_bd m hA.bytes 0
  obtain ⟨x1, y1⟩ := b1_bd m hA.bytes 1
  obtain ⟨x4, y4⟩ := w4_bd m hA.bytes 4
  have v0 : IntKind.i64.wrap (b1 m 0) = b1 m 0 := i64_id _ x0 (by omega)
  have v1 : IntKind.i64.wrap (b1 m 1) = b1 m 1 := i64_id _ x1 (by omega)
  have v4 : IntKind.u32.wrap (w4 m 4) = w4 m 4 := u32_id _ x4 (by omega)
  have n0 := fun W (h : At W b off len cap m) => fnumber1 b off len cap m 0 0 W h rfl (by omega)
  have n1 := fun W (h : At W b off len cap m) => fnumber1 b off len cap m 1 1 W h rfl (by omega)
  have n4 := fun W (h : At W b off len cap m) => fnumber4 b off len cap m 4 4 W h rfl (by omega)
  by_cases hk : protoK (kindW (b1 m 0) (b1 m 1)) = 1
  · have hB : Hid (echoB m = true) := (echo_kind m).2 hk
    have hN : Hid (echoN m = w4 m 4 / 65536) := by show echoN m = _; unfold echoN; rw [if_pos hB.out, w4_high m HB.out]
    have hk' : (protoK (kindW (b1 m 0) (b1 m 1)) != 1) = false := by rw [hk]; rfl
    clear hk
    go_enter Try.func53, Try.ntmps53
    go_wp2_with fail
    refine (n0 _ hA).mono ?_
    rintro e w' ⟨rfl, rfl⟩
    go_wp2_with fail
    refine (n1 _ hA).mono ?_
    rintro e w' ⟨rfl, rfl⟩
    go_wp2_with fail
    refine (n4 _ hA).mono ?_
    rintro e w' ⟨rfl, rfl⟩
    have HX : Hid (0 ≤ w4 m 4 ∧ w4 m 4 < 4294967296) := ⟨x4, y4⟩
    clear n0 n1 n4 hA
    go_wp2_with fail
    refine (kind_any ⟨b1 m 0, b1 m 1, w4 m 4, []⟩ none 0 0 _).mono ?_
    rintro e w1 ⟨rfl, hb1⟩
    have c0 := box_cell hb1 0 _ rfl
    have c1 := box_cell hb1 1 _ rfl
    have c2 := box_cell hb1 2 _ rfl
    have c3 := box_cell hb1 3 _ rfl
    have hb := below_trans (below_alloc _ _) hb1
    clear hb1
    go_wp2_with fail
    refine (proto_any _ _).mono ?_
    rintro e w' ⟨rfl, rfl⟩
    go_wp2_with fail
    refine (number_of ⟨b1 m 0, b1 m 1, w4 m 4, []⟩ none 0 0 _ HX.out.1 HX.out.2).mono ?_
    rintro e w2 ⟨rfl, hb2⟩
    go_wp2
    go_ret2
    exact ⟨by rw [hB.out, hN.out]; rfl, below_trans hb hb2⟩
  · have hB : Hid (echoB m = false) := by
      show echoB m = false
      rcases h : echoB m with _ | _
      · rfl
      · exact absurd ((echo_kind m).1 h) hk
    have hN : Hid (echoN m = 0) := by show echoN m = _; unfold echoN; rw [if_neg (by rw [hB.out]; decide)]
    have hk' : (protoK (kindW (b1 m 0) (b1 m 1)) != 1) = true := by rw [bne_iff_ne]; exact hk
    clear hk
    go_enter Try.func53, Try.ntmps53
    go_wp2_with fail
    refine (n0 _ hA).mono ?_
    rintro e w' ⟨rfl, rfl⟩
    go_wp2_with fail
    refine (n1 _ hA).mono ?_
    rintro e w' ⟨rfl, rfl⟩
    go_wp2_with fail
    refine (n4 _ hA).mono ?_
    rintro e w' ⟨rfl, rfl⟩
    clear n0 n1 n4 hA
    go_wp2_with fail
    refine (kind_any ⟨b1 m 0, b1 m 1, w4 m 4, []⟩ none 0 0 _).mono ?_
    rintro e w1 ⟨rfl, hb1⟩
    have hb := below_trans (below_alloc _ _) hb1
    clear hb1
    go_wp2_with fail
    refine (proto_any _ _).mono ?_
    rintro e w' ⟨rfl, rfl⟩
    go_wp2
    go_ret2
    exact ⟨by rw [hB.out, hN.out]; rfl, hb⟩

set_option maxHeartbeats 1000000 in
theorem ports_some (b off len cap : Nat) (x f t : Int) (m : List Int) (w : World) (hA : At w b off len cap m) (h8 : 8 ≤ len) (h : portsOf x m = some (f, t)) :
    Calls Try.prog 36 #[.int .i64 x, .slice (some ⟨b, off, none⟩) len cap] w fun e w' => e = .returned (.tuple #[.int .i64 f, .int .i64 t, .bool true]) ∧ Below w.heap.size w w' := by
  obtain ⟨x0, y0⟩ := w2_bd m hA.bytes 0
  obtain ⟨x2, y2⟩ := w2_bd m hA.bytes 2
  have v0 : IntKind.i64.wrap (w2 m 0) = w2 m 0 := i64_id _ x0 (by omega)
  have v2 : IntKind.i64.wrap (w2 m 2) = w2 m 2 := i64_id _ x2 (by omega)
  unfold portsOf at h
  by_cases h17 : x = 17
  · rw [if_pos (.inl h17)] at h
    obtain ⟨rfl, rfl⟩ := Prod.mk.inj (Option.some.inj h)
    subst h17
    clear h
    go_enter Try.func36, Try.ntmps36
    go_wp2_with fail
    refine (fnumber2 b off len cap m 0 0 _ hA rfl (by omega)).mono ?_
    rintro e w' ⟨rfl, rfl⟩
    go_wp2_with fail
    refine (fnumber2 b off len cap m 2 2 _ hA rfl (by omega)).mono ?_
    rintro e w' ⟨rfl, rfl⟩
    go_wp2
    refine bodyPost_ret (v := .tuple #[.int .i64 (w2 m 0), .int .i64 (w2 m 2), .bool true]) ?_ rfl ?_
    · simp [results, Try.results36, go_sem]
    exact ⟨rfl, Below.refl _ _⟩
  by_cases h6 : x = 6
  · rw [if_pos (.inr h6)] at h
    obtain ⟨rfl, rfl⟩ := Prod.mk.inj (Option.some.inj h)
    subst h6
    clear h h17
    go_enter Try.func36, Try.ntmps36
    go_wp2_with fail
    refine (fnumber2 b off len cap m 0 0 _ hA rfl (by omega)).mono ?_
    rintro e w' ⟨rfl, rfl⟩
    go_wp2_with fail
    refine (fnumber2 b off len cap m 2 2 _ hA rfl (by omega)).mono ?_
    rintro e w' ⟨rfl, rfl⟩
    go_wp2
    refine bodyPost_ret (v := .tuple #[.int .i64 (w2 m 0), .int .i64 (w2 m 2), .bool true]) ?_ rfl ?_
    · simp [results, Try.results36, go_sem]
    exact ⟨rfl, Below.refl _ _⟩
  rw [if_neg (by omega)] at h
  by_cases h1 : x = 1 ∧ echoB m = true
  · rw [if_pos h1] at h
    obtain ⟨rfl, rfl⟩ := Prod.mk.inj (Option.some.inj h)
    obtain ⟨rfl, hE⟩ := h1
    have hN : echoN m = w2 m 4 := if_pos hE
    clear h h17 h6
    go_enter Try.func36, Try.ntmps36
    go_wp2_with fail
    refine (echoNumber_any b off len cap m _ hA h8).mono ?_
    rintro e w1 ⟨rfl, hb1⟩
    rw [hE, hN]
    clear hE hN
    go_wp2
    refine bodyPost_ret (v := .tuple #[.int .i64 (w2 m 4), .int .i64 (w2 m 4), .bool true]) ?_ rfl ?_
    · simp [results, Try.results36, go_sem]
    exact ⟨rfl, hb1⟩
  · rw [if_neg h1] at h; cases h

set_option maxHeartbeats 1000000 in
theorem ports_none (b off len cap : Nat) (x : Int) (m : List Int) (w : World) (hA : At w b off len cap m) (h8 : 8 ≤ len) (h : portsOf x m = none) :
    Calls Try.prog 36 #[.int .i64 x, .slice (some ⟨b, off, none⟩) len cap] w fun e w' => ∃ f t, e = .returned (.tuple #[.int .i64 f, .int .i64 t, .bool false]) ∧ Below w.heap.size w w' := by
  unfold portsOf at h
  by_cases h17 : x = 17
  · rw [if_pos (.inl h17)] at h; cases h
  by_cases h6 : x = 6
  · rw [if_pos (.inr h6)] at h; cases h
  rw [if_neg (by omega)] at h
  by_cases h1 : x = 1
  · have hE : echoB m = false := by
      rcases hq : echoB m with _ | _
      · rfl
      · rw [if_pos ⟨h1, hq⟩] at h; cases h
    subst h1
    clear h h17 h6
    go_enter Try.func36, Try.ntmps36
    go_wp2_with fail
    refine (echoNumber_any b off len cap m _ hA h8).mono ?_
    rintro e w1 ⟨rfl, hb1⟩
    rw [hE]
    clear hE
    go_wp2
    refine bodyPost_ret (v := .tuple #[.int .i64 (echoN m), .int .i64 (echoN m), .bool false]) ?_ rfl ?_
    · simp [results, Try.results36, go_sem]
    exact ⟨_, _, rfl, hb1⟩
  have g1 : (x == 17) = false := by simpa using h17
  have g2 : (x == 6) = false := by simpa using h6
  have g3 : (x == 1) = false := by simpa using h1
  clear h h17 h6 h1
  go_enter Try.func36, Try.ntmps36
  go_wp2
  refine bodyPost_ret (v := .tuple #[.int .i64 0, .int .i64 0, .bool false]) ?_ rfl ?_
  · simp [results, Try.results36, go_sem]
  exact ⟨_, _, rfl, Below.refl _ _⟩
end Go.Proofs.Ytdejjokgchbgnaa
