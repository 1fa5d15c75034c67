/- The contracts of parts and Encode. -/
import Derived.Test.YtafkkehcacdodaaGreatEntPut
import Derived.Deep.LoopGhost
set_option maxRecDepth 100000
namespace Go.Proofs.YtafkkehcacdodaaGreat
open Go.RowKit

/-- A method's value. -/
@[reducible] def mv (f S : Nat) : Value := .func (.func f) #[.pointer (some ⟨S, 0, none⟩)] #[]

@[reducible] def ms1 (S : Nat) : Array Value := #[mv 121 S, mv 122 S]
@[reducible] def ms2 (S : Nat) : Array Value := #[mv 121 S, mv 122 S, mv 123 S, mv 124 S, mv 125 S]
@[reducible] def ms3 (S : Nat) : Array Value := #[mv 121 S, mv 122 S, mv 124 S, mv 125 S]

theorem parts1 (S : Nat) (w : World) (hc : w.cell? ⟨S, 0, none⟩ = some (.int .i64 1)) :
    Calls Tryz.prog 107 #[.pointer (some ⟨S, 0, none⟩)] w fun r w' => r = .returned (.slice (some ⟨w.heap.size, 0, none⟩) 2 2) ∧ w' = w.alloc (.cells (ms1 S) 1) := by
  have hmf : ∀ (fn : Fn) (first cap : Array Value) (w : World), (Instr.makeFunc fn first cap).run Tryz.prog w = .ok (.func fn first cap) w := fun _ _ _ _ => rfl
  go_enter Tryz.func107, Tryz.ntmps107
  go_wp2
  go_ret
  exact ⟨rfl, rfl⟩

theorem parts2 (S : Nat) (w : World) (hc : w.cell? ⟨S, 0, none⟩ = some (.int .i64 2)) :
    Calls Tryz.prog 107 #[.pointer (some ⟨S, 0, none⟩)] w fun r w' => r = .returned (.slice (some ⟨w.heap.size, 0, none⟩) 5 5) ∧ w' = w.alloc (.cells (ms2 S) 1) := by
  have hmf : ∀ (fn : Fn) (first cap : Array Value) (w : World), (Instr.makeFunc fn first cap).run Tryz.prog w = .ok (.func fn first cap) w := fun _ _ _ _ => rfl
  go_enter Tryz.func107, Tryz.ntmps107
  go_wp2
  go_ret
  exact ⟨rfl, rfl⟩

theorem parts3 (S : Nat) (w : World) (hc : w.cell? ⟨S, 0, none⟩ = some (.int .i64 3)) :
    Calls Tryz.prog 107 #[.pointer (some ⟨S, 0, none⟩)] w fun r w' => r = .returned (.slice (some ⟨w.heap.size, 0, none⟩) 4 4) ∧ w' = w.alloc (.cells (ms3 S) 1) := by
  have hmf : ∀ (fn : Fn) (first cap : Array Value) (w : World), (Instr.makeFunc fn first cap).run Tryz.prog w = .ok (.func fn first cap) w := fun _ _ _ _ => rfl
  go_enter Tryz.func107, Tryz.ntmps107
  go_wp2
  go_ret
  exact ⟨rfl, rfl⟩

set_option maxHeartbeats 1000000 in
theorem encode_no (e : En) (w : World) (h : ¬ e.May) :
    Calls Tryz.prog 87 #[enV e] w fun r w' => r = .returned (.tuple #[.slice none 0 0, .int .i64 1]) ∧ Below w.heap.size w w' := by
  have hE : Hid (checkE e = 1) := by show checkE e = 1; unfold checkE; rw [mayB_false h]; rfl
  have H := fun w => echeck_any e w
  rw [hE.out] at H
  obtain ⟨k, t, s, a, b⟩ := e
  go_enter Tryz.func87, Tryz.ntmps87
  go_wp2_with fail
  refine (H _).mono ?_
  rintro r w1 ⟨rfl, hb⟩
  go_wp2
  go_ret2
  exact ⟨rfl, below_trans (below_alloc _ _) hb⟩

/-- Ahead of the loop: the writer, and behind it the list of its methods. -/
theorem start_w (w w1 : World) (e : En) (ms : Array Value) (S : Nat) (hS : S = w1.heap.size) (hb : Below w.heap.size w w1) :
    ∃ w2, w2 = (w1.alloc (.cells (wtC e (.slice none 0 0)) 175)).alloc (.cells ms 1) ∧ Wtr w2 S (S + 2) e (.slice none 0 0) [] ∧ (∀ j, w2.cell? ⟨S + 1, j, none⟩ = ms[j]?) ∧ Below w.heap.size w w2 ∧ w.heap.size ≤ S := by
  have hb1 := below_alloc w1 (.cells (wtC e (.slice none 0 0)) 175)
  have hb2 := below_alloc (w1.alloc (.cells (wtC e (.slice none 0 0)) 175)) (.cells ms 1)
  have hs1 : (w1.alloc (.cells (wtC e (.slice none 0 0)) 175)).heap.size = S + 1 := by simp [hS]
  have hs2 : ((w1.alloc (.cells (wtC e (.slice none 0 0)) 175)).alloc (.cells ms 1)).heap.size = S + 2 := by simp [hS]
  refine ⟨_, rfl, ⟨?_, World.ownsRow_nil _ _ _ _, by omega, by omega, by simp⟩, ?_, below_trans hb (below_trans hb1 hb2), by rw [hS]; exact hb.size⟩
  · rw [hb2.block S (by omega), hS]
    exact heap_alloc_new _ _
  · intro j
    rw [← hs1]
    exact World.cell?_alloc_mark _ ms 1 (0, 0) j

def pre1 (t : Int) : Nat → List Int
  | 0 => []
  | 1 => bigE 1 1
  | _ => bigE 1 1 ++ bigE 8 t

def pre2 (e : En) : Nat → List Int
  | 0 => []
  | 1 => bigE 1 e.kind
  | 2 => bigE 1 e.kind ++ bigE 8 e.time
  | 3 => bigE 1 e.kind ++ bigE 8 e.time ++ bigE 4 e.sub
  | 4 => bigE 1 e.kind ++ bigE 8 e.time ++ bigE 4 e.sub ++ bigE 4 e.addr
  | _ => bigE 1 e.kind ++ bigE 8 e.time ++ bigE 4 e.sub ++ bigE 4 e.addr ++ bigE 2 e.block

def pre3 (e : En) : Nat → List Int
  | 0 => []
  | 1 => bigE 1 e.kind
  | 2 => bigE 1 e.kind ++ bigE 8 e.time
  | 3 => bigE 1 e.kind ++ bigE 8 e.time ++ bigE 4 e.addr
  | _ => bigE 1 e.kind ++ bigE 8 e.time ++ bigE 4 e.addr ++ bigE 2 e.block

theorem ms_cell {w w' : World} {S : Nat} {ms : Array Value} (h : ∀ j, w.cell? ⟨S + 1, j, none⟩ = ms[j]?) (hk : Kp S (S + 2) w w') (j : Nat) : w'.cell? ⟨S + 1, j, none⟩ = ms[j]? := by
  rw [← h j]
  exact World.cell?_of_block (w := w) (hk.keep (S + 1) (by omega) (by omega))

set_option maxHeartbeats 2000000 in
theorem encode_1 (t : Int) (w : World) (h : En.May ⟨1, t, 0, 0, 0⟩) :
    Calls Tryz.prog 87 #[enV ⟨1, t, 0, 0, 0⟩] w fun r w' => ∃ v, r = .returned (.tuple #[v, .int .i64 0]) ∧ Owns w' w.heap.size v (bytesE ⟨1, t, 0, 0, 0⟩) ∧ Below w.heap.size w w' := by
  have hE : Hid (checkE ⟨1, t, 0, 0, 0⟩ = 0) := by show checkE _ = 0; unfold checkE; rw [mayB_true h]; rfl
  have H := fun w => echeck_any ⟨1, t, 0, 0, 0⟩ w
  rw [hE.out] at H
  obtain ⟨t0, t1, -⟩ := h
  dsimp only at t0 t1
  go_enter Tryz.func87, Tryz.ntmps87
  go_wp2_with fail
  refine (H _).mono ?_
  rintro r w1 ⟨rfl, hb⟩
  have c0 : w1.cell? ⟨w.heap.size, 0, none⟩ = some (.int .i64 1) := cell_later hb (by rw [World.cell?_alloc_mark w _ _ (0, 0) 0]; rfl)
  have c1 : w1.cell? ⟨w.heap.size, 1, none⟩ = some (.int .i64 t) := cell_later hb (by rw [World.cell?_alloc_mark w _ _ (0, 0) 1]; rfl)
  have c2 : w1.cell? ⟨w.heap.size, 2, none⟩ = some (.int .u32 0) := cell_later hb (by rw [World.cell?_alloc_mark w _ _ (0, 0) 2]; rfl)
  have c3 : w1.cell? ⟨w.heap.size, 3, none⟩ = some (.int .u32 0) := cell_later hb (by rw [World.cell?_alloc_mark w _ _ (0, 0) 3]; rfl)
  have c4 : w1.cell? ⟨w.heap.size, 4, none⟩ = some (.int .i64 0) := cell_later hb (by rw [World.cell?_alloc_mark w _ _ (0, 0) 4]; rfl)
  have hb' := below_trans (below_alloc w _) hb
  obtain ⟨w2, HW2, hW2, hms, hb2, hle⟩ := start_w w w1 ⟨1, t, 0, 0, 0⟩ (ms1 w1.heap.size) w1.heap.size rfl hb'
  have hsz : w2.heap.size = w1.heap.size + 2 := by rw [HW2]; simp
  have hcS : ∀ W, W = w1.alloc (.cells (wtC ⟨1, t, 0, 0, 0⟩ (.slice none 0 0)) 175) → W.cell? ⟨w1.heap.size, 0, none⟩ = some (.int .i64 1) := by
    rintro W rfl; rw [World.cell?_alloc_mark w1 _ _ (0, 0) 0]; rfl
  go_wp2_with fail
  refine (parts1 w1.heap.size _ (hcS _ rfl)).mono ?_
  rintro r w3 ⟨rfl, hw3⟩
  have hw4 : w3 = w2 := hw3.trans HW2.symm
  clear hw3
  subst hw4
  have HSZ : Hid ((w1.alloc (.cells (wtC ⟨1, t, 0, 0, 0⟩ (.slice none 0 0)) 175)).heap.size = w1.heap.size + 1) := by show _ = _; simp
  rw [HSZ.out]
  clear HW2 HSZ hcS c0 c1 c2 c3 c4 hb hb'
  generalize w1.heap.size = S at *
  go_wp2
  go_loopg [17] 2 (fun gk i wr => ∃ (k : Nat) (v : Value), k + gk = 2 ∧ i = .int .i64 k ∧ Wtr wr S (S + 2) ⟨1, t, 0, 0, 0⟩ v (pre1 t k) ∧ Kp S (S + 2) w3 wr)
  case atStart => exact ⟨0, _, rfl, rfl, hW2, ⟨Below.refl _ _, fun _ _ _ => rfl⟩⟩
  case round =>
    obtain ⟨k, v, hk, rfl, hW, hK⟩ := hrel
    have hcm := ms_cell hms hK
    have hks : k = 0 ∨ k = 1 ∨ k = 2 := by omega
    rcases hks with rfl | rfl | rfl
    · have hc := hcm 0
      have H1 := kind_m S (S + 2) ⟨1, t, 0, 0, 0⟩ v _ wr hW (by show (0 : Int) ≤ 1; decide) (by show (1 : Int) < _; decide) (by simp [pre1])
      obtain ⟨wx, hwx⟩ : ∃ wx, wx = wr := ⟨wr, rfl⟩
      clear hcm
      go_wp2_with fail
      refine H1.mono ?_
      rintro r w5 ⟨rfl, v', hW', hK'⟩
      have hKK := hK.trans hK'
      clear hW hK hK' hc H1
      go_wp2
      go_roundg 1
      case rel => exact ⟨1, v', rfl, rfl, hW', hKK⟩
      case measure => omega
    · have hc := hcm 1
      have H1 := time_m S (S + 2) ⟨1, t, 0, 0, 0⟩ v _ wr hW t0 (by show t < _; omega) (by simp [pre1, bigE_length])
      clear hcm
      go_wp2_with fail
      refine H1.mono ?_
      rintro r w5 ⟨rfl, v', hW', hK'⟩
      have hKK := hK.trans hK'
      clear hW hK hK' hc H1
      go_wp2
      go_roundg 0
      case rel => exact ⟨2, v', rfl, rfl, hW', hKK⟩
      case measure => omega
    · have hc5 : wr.cell? ⟨S, 5, none⟩ = some v := hW.cell 5
      obtain ⟨va, vc, hv⟩ := owns_shape hW.out
      have hO : Owns wr w.heap.size v (bytesE ⟨1, t, 0, 0, 0⟩) := hW.out.low (by omega)
      have hB := hb2.trans (hK.below.mono hle)
      generalize (pre1 t 2).length = N at *
      subst hv
      clear hcm hW hK
      go_wp2
      go_ret2
      exact ⟨_, rfl, hO, hB⟩

set_option maxHeartbeats 4000000 in
theorem encode_2 (t s a b : Int) (w : World) (h : En.May ⟨2, t, s, a, b⟩) (s0 : 0 ≤ s) (s1 : s < 4294967296) (a0 : 0 ≤ a) (a1 : a < 4294967296) :
    Calls Tryz.prog 87 #[enV ⟨2, t, s, a, b⟩] w fun r w' => ∃ v, r = .returned (.tuple #[v, .int .i64 0]) ∧ Owns w' w.heap.size v (bytesE ⟨2, t, s, a, b⟩) ∧ Below w.heap.size w w' := by
  have hE : Hid (checkE ⟨2, t, s, a, b⟩ = 0) := by show checkE _ = 0; unfold checkE; rw [mayB_true h]; rfl
  have H := fun w => echeck_any ⟨2, t, s, a, b⟩ w
  rw [hE.out] at H
  obtain ⟨t0, t1, hkk⟩ := h
  dsimp only at t0 t1 hkk
  have b0 : 0 ≤ b := by omega
  have b1 : b ≤ 65535 := by omega
  clear hkk
  go_enter Tryz.func87, Tryz.ntmps87
  go_wp2_with fail
  refine (H _).mono ?_
  rintro r w1 ⟨rfl, hb⟩
  have c0 : w1.cell? ⟨w.heap.size, 0, none⟩ = some (.int .i64 2) := cell_later hb (by rw [World.cell?_alloc_mark w _ _ (0, 0) 0]; rfl)
  have c1 : w1.cell? ⟨w.heap.size, 1, none⟩ = some (.int .i64 t) := cell_later hb (by rw [World.cell?_alloc_mark w _ _ (0, 0) 1]; rfl)
  have c2 : w1.cell? ⟨w.heap.size, 2, none⟩ = some (.int .u32 s) := cell_later hb (by rw [World.cell?_alloc_mark w _ _ (0, 0) 2]; rfl)
  have c3 : w1.cell? ⟨w.heap.size, 3, none⟩ = some (.int .u32 a) := cell_later hb (by rw [World.cell?_alloc_mark w _ _ (0, 0) 3]; rfl)
  have c4 : w1.cell? ⟨w.heap.size, 4, none⟩ = some (.int .i64 b) := cell_later hb (by rw [World.cell?_alloc_mark w _ _ (0, 0) 4]; rfl)
  have hb' := below_trans (below_alloc w _) hb
  obtain ⟨w2, HW2, hW2, hms, hb2, hle⟩ := start_w w w1 ⟨2, t, s, a, b⟩ (ms2 w1.heap.size) w1.heap.size rfl hb'
  have hsz : w2.heap.size = w1.heap.size + 2 := by rw [HW2]; simp
  have hcS : ∀ W, W = w1.alloc (.cells (wtC ⟨2, t, s, a, b⟩ (.slice none 0 0)) 175) → W.cell? ⟨w1.heap.size, 0, none⟩ = some (.int .i64 2) := by
    rintro W rfl; rw [World.cell?_alloc_mark w1 _ _ (0, 0) 0]; rfl
  go_wp2_with fail
  refine (parts2 w1.heap.size _ (hcS _ rfl)).mono ?_
  rintro r w3 ⟨rfl, hw3⟩
  have hw4 : w3 = w2 := hw3.trans HW2.symm
  clear hw3
  subst hw4
  have HSZ : Hid ((w1.alloc (.cells (wtC ⟨2, t, s, a, b⟩ (.slice none 0 0)) 175)).heap.size = w1.heap.size + 1) := by show _ = _; simp
  rw [HSZ.out]
  clear HW2 HSZ hcS c0 c1 c2 c3 c4 hb hb'
  generalize w1.heap.size = S at *
  go_wp2
  go_loopg [17] 5 (fun gk i wr => ∃ (k : Nat) (v : Value), k + gk = 5 ∧ i = .int .i64 k ∧ Wtr wr S (S + 2) ⟨2, t, s, a, b⟩ v (pre2 ⟨2, t, s, a, b⟩ k) ∧ Kp S (S + 2) w3 wr)
  case atStart => exact ⟨0, _, rfl, rfl, hW2, ⟨Below.refl _ _, fun _ _ _ => rfl⟩⟩
  case round =>
    obtain ⟨k, v, hk, rfl, hW, hK⟩ := hrel
    have hcm := ms_cell hms hK
    have hks : k = 0 ∨ k = 1 ∨ k = 2 ∨ k = 3 ∨ k = 4 ∨ k = 5 := by omega
    rcases hks with rfl | rfl | rfl | rfl | rfl | rfl
    · have hc := hcm 0
      have H1 := kind_m S (S + 2) ⟨2, t, s, a, b⟩ v _ wr hW (by show (0 : Int) ≤ 2; decide) (by show (2 : Int) < _; decide) (by simp [pre2])
      clear hcm
      go_wp2_with fail
      refine H1.mono ?_
      rintro r w5 ⟨rfl, v', hW', hK'⟩
      have hKK := hK.trans hK'
      clear hW hK hK' hc H1
      go_wp2
      go_roundg 4
      case rel => exact ⟨1, v', rfl, rfl, hW', hKK⟩
      case measure => omega
    · have hc := hcm 1
      have H1 := time_m S (S + 2) ⟨2, t, s, a, b⟩ v _ wr hW t0 (by show t < _; omega) (by simp [pre2, bigE_length])
      clear hcm
      go_wp2_with fail
      refine H1.mono ?_
      rintro r w5 ⟨rfl, v', hW', hK'⟩
      have hKK := hK.trans hK'
      clear hW hK hK' hc H1
      go_wp2
      go_roundg 3
      case rel => exact ⟨2, v', rfl, rfl, hW', hKK⟩
      case measure => omega
    · have hc := hcm 2
      have H1 := sub_m S (S + 2) ⟨2, t, s, a, b⟩ v _ wr hW s0 (by show s < _; omega) (by simp [pre2, bigE_length])
      clear hcm
      go_wp2_with fail
      refine H1.mono ?_
      rintro r w5 ⟨rfl, v', hW', hK'⟩
      have hKK := hK.trans hK'
      clear hW hK hK' hc H1
      go_wp2
      go_roundg 2
      case rel => exact ⟨3, v', rfl, rfl, hW', hKK⟩
      case measure => omega
    · have hc := hcm 3
      have H1 := addr_m S (S + 2) ⟨2, t, s, a, b⟩ v _ wr hW a0 (by show a < _; omega) (by simp [pre2, bigE_length])
      clear hcm
      go_wp2_with fail
      refine H1.mono ?_
      rintro r w5 ⟨rfl, v', hW', hK'⟩
      have hKK := hK.trans hK'
      clear hW hK hK' hc H1
      go_wp2
      go_roundg 1
      case rel => exact ⟨4, v', rfl, rfl, hW', hKK⟩
      case measure => omega
    · have hc := hcm 4
      have H1 := block_m S (S + 2) ⟨2, t, s, a, b⟩ v _ wr hW b0 (by show b < _; omega) (by simp [pre2, bigE_length])
      clear hcm
      go_wp2_with fail
      refine H1.mono ?_
      rintro r w5 ⟨rfl, v', hW', hK'⟩
      have hKK := hK.trans hK'
      clear hW hK hK' hc H1
      go_wp2
      go_roundg 0
      case rel => exact ⟨5, v', rfl, rfl, hW', hKK⟩
      case measure => omega
    · have hc5 : wr.cell? ⟨S, 5, none⟩ = some v := hW.cell 5
      obtain ⟨va, vc, hv⟩ := owns_shape hW.out
      have hO : Owns wr w.heap.size v (bytesE ⟨2, t, s, a, b⟩) := hW.out.low (by omega)
      have hB := hb2.trans (hK.below.mono hle)
      generalize (pre2 ⟨2, t, s, a, b⟩ 5).length = NL at *
      subst hv
      clear hcm hW hK
      go_wp2
      go_ret2
      exact ⟨_, rfl, hO, hB⟩

set_option maxHeartbeats 4000000 in
theorem encode_3 (t s a b : Int) (w : World) (h : En.May ⟨3, t, s, a, b⟩) (a0 : 0 ≤ a) (a1 : a < 4294967296) :
    Calls Tryz.prog 87 #[enV ⟨3, t, s, a, b⟩] w fun r w' => ∃ v, r = .returned (.tuple #[v, .int .i64 0]) ∧ Owns w' w.heap.size v (bytesE ⟨3, t, s, a, b⟩) ∧ Below w.heap.size w w' := by
  have hE : Hid (checkE ⟨3, t, s, a, b⟩ = 0) := by show checkE _ = 0; unfold checkE; rw [mayB_true h]; rfl
  have H := fun w => echeck_any ⟨3, t, s, a, b⟩ w
  rw [hE.out] at H
  obtain ⟨t0, t1, hkk⟩ := h
  dsimp only at t0 t1 hkk
  have b0 : 0 ≤ b := by omega
  have b1 : b ≤ 65535 := by omega
  clear hkk
  go_enter Tryz.func87, Tryz.ntmps87
  go_wp2_with fail
  refine (H _).mono ?_
  rintro r w1 ⟨rfl, hb⟩
  have c0 : w1.cell? ⟨w.heap.size, 0, none⟩ = some (.int .i64 3) := cell_later hb (by rw [World.cell?_alloc_mark w _ _ (0, 0) 0]; rfl)
  have c1 : w1.cell? ⟨w.heap.size, 1, none⟩ = some (.int .i64 t) := cell_later hb (by rw [World.cell?_alloc_mark w _ _ (0, 0) 1]; rfl)
  have c2 : w1.cell? ⟨w.heap.size, 2, none⟩ = some (.int .u32 s) := cell_later hb (by rw [World.cell?_alloc_mark w _ _ (0, 0) 2]; rfl)
  have c3 : w1.cell? ⟨w.heap.size, 3, none⟩ = some (.int .u32 a) := cell_later hb (by rw [World.cell?_alloc_mark w _ _ (0, 0) 3]; rfl)
  have c4 : w1.cell? ⟨w.heap.size, 4, none⟩ = some (.int .i64 b) := cell_later hb (by rw [World.cell?_alloc_mark w _ _ (0, 0) 4]; rfl)
  have hb' := below_trans (below_alloc w _) hb
  obtain ⟨w2, HW2, hW2, hms, hb2, hle⟩ := start_w w w1 ⟨3, t, s, a, b⟩ (ms3 w1.heap.size) w1.heap.size rfl hb'
  have hsz : w2.heap.size = w1.heap.size + 2 := by rw [HW2]; simp
  have hcS : ∀ W, W = w1.alloc (.cells (wtC ⟨3, t, s, a, b⟩ (.slice none 0 0)) 175) → W.cell? ⟨w1.heap.size, 0, none⟩ = some (.int .i64 3) := by
    rintro W rfl; rw [World.cell?_alloc_mark w1 _ _ (0, 0) 0]; rfl
  go_wp2_with fail
  refine (parts3 w1.heap.size _ (hcS _ rfl)).mono ?_
  rintro r w3 ⟨rfl, hw3⟩
  have hw4 : w3 = w2 := hw3.trans HW2.symm
  clear hw3
  subst hw4
  have HSZ : Hid ((w1.alloc (.cells (wtC ⟨3, t, s, a, b⟩ (.slice none 0 0)) 175)).heap.size = w1.heap.size + 1) := by show _ = _; simp
  rw [HSZ.out]
  clear HW2 HSZ hcS c0 c1 c2 c3 c4 hb hb'
  generalize w1.heap.size = S at *
  go_wp2
  go_loopg [17] 4 (fun gk i wr => ∃ (k : Nat) (v : Value), k + gk = 4 ∧ i = .int .i64 k ∧ Wtr wr S (S + 2) ⟨3, t, s, a, b⟩ v (pre3 ⟨3, t, s, a, b⟩ k) ∧ Kp S (S + 2) w3 wr)
  case atStart => exact ⟨0, _, rfl, rfl, hW2, ⟨Below.refl _ _, fun _ _ _ => rfl⟩⟩
  case round =>
    obtain ⟨k, v, hk, rfl, hW, hK⟩ := hrel
    have hcm := ms_cell hms hK
    have hks : k = 0 ∨ k = 1 ∨ k = 2 ∨ k = 3 ∨ k = 4 := by omega
    rcases hks with rfl | rfl | rfl | rfl | rfl
    · have hc := hcm 0
      have H1 := kind_m S (S + 2) ⟨3, t, s, a, b⟩ v _ wr hW (by show (0 : Int) ≤ 3; decide) (by show (3 : Int) < _; decide) (by simp [pre3])
      clear hcm
      go_wp2_with fail
      refine H1.mono ?_
      rintro r w5 ⟨rfl, v', hW', hK'⟩
      have hKK := hK.trans hK'
      clear hW hK hK' hc H1
      go_wp2
      go_roundg 3
      case rel => exact ⟨1, v', rfl, rfl, hW', hKK⟩
      case measure => omega
    · have hc := hcm 1
      have H1 := time_m S (S + 2) ⟨3, t, s, a, b⟩ v _ wr hW t0 (by show t < _; omega) (by simp [pre3, bigE_length])
      clear hcm
      go_wp2_with fail
      refine H1.mono ?_
      rintro r w5 ⟨rfl, v', hW', hK'⟩
      have hKK := hK.trans hK'
      clear hW hK hK' hc H1
      go_wp2
      go_roundg 2
      case rel => exact ⟨2, v', rfl, rfl, hW', hKK⟩
      case measure => omega
    · have hc := hcm 2
      have H1 := addr_m S (S + 2) ⟨3, t, s, a, b⟩ v _ wr hW a0 (by show a < _; omega) (by simp [pre3, bigE_length])
      clear hcm
      go_wp2_with fail
      refine H1.mono ?_
      rintro r w5 ⟨rfl, v', hW', hK'⟩
      have hKK := hK.trans hK'
      clear hW hK hK' hc H1
      go_wp2
      go_roundg 1
      case rel => exact ⟨3, v', rfl, rfl, hW', hKK⟩
      case measure => omega
    · have hc := hcm 3
      have H1 := block_m S (S + 2) ⟨3, t, s, a, b⟩ v _ wr hW b0 (by show b < _; omega) (by simp [pre3, bigE_length])
      clear hcm
      go_wp2_with fail
      refine H1.mono ?_
      rintro r w5 ⟨rfl, v', hW', hK'⟩
      have hKK := hK.trans hK'
      clear hW hK hK' hc H1
      go_wp2
      go_roundg 0
      case rel => exact ⟨4, v', rfl, rfl, hW', hKK⟩
      case measure => omega
    · have hc5 : wr.cell? ⟨S, 5, none⟩ = some v := hW.cell 5
      obtain ⟨va, vc, hv⟩ := owns_shape hW.out
      have hO : Owns wr w.heap.size v (bytesE ⟨3, t, s, a, b⟩) := hW.out.low (by omega)
      have hB := hb2.trans (hK.below.mono hle)
      generalize (pre3 ⟨3, t, s, a, b⟩ 4).length = NL at *
      subst hv
      clear hcm hW hK
      go_wp2
      go_ret2
      exact ⟨_, rfl, hO, hB⟩

/-- Encode of what may be: its bytes, in memory of the call's own. -/
theorem encode_ok (e : En) (w : World) (h : e.May) (ho : e.Ok) :
    Calls Tryz.prog 87 #[enV e] w fun r w' => ∃ v, r = .returned (.tuple #[v, .int .i64 0]) ∧ Owns w' w.heap.size v (bytesE e) ∧ Below w.heap.size w w' := by
  obtain ⟨k, t, s, a, b⟩ := e
  have hk := h.kind
  dsimp only at hk
  rcases hk with ⟨rfl, rfl, rfl, rfl⟩ | ⟨rfl, _⟩ | ⟨rfl, _⟩
  · exact encode_1 t w h
  · exact encode_2 t s a b w h ho.sub0 ho.sub1 ho.addr0 ho.addr1
  · exact encode_3 t s a b w h ho.addr0 ho.addr1

end Go.Proofs.YtafkkehcacdodaaGreat
