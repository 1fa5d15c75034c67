/- The contracts of the writer's methods. -/
import Derived.Test.YtafkkehcacdodaaGreatEntCheck
set_option maxRecDepth 100000
namespace Go.Proofs.YtafkkehcacdodaaGreat
open Go.RowKit

/-- The writer's six cells. -/
@[reducible] def wtC (e : En) (v : Value) : Array Value := #[.int .i64 e.kind, .int .i64 e.time, .int .u32 e.sub, .int .u32 e.addr, .int .i64 e.block, v]

/-- A writer: the entry, and the bytes that it has laid, in memory from B on. -/
structure Wtr (w : World) (S B : Nat) (e : En) (v : Value) (l : List Int) : Prop where
  row : w.heap[S]? = some (.cells (wtC e v) 175 (0, 0))
  out : Owns w B v l
  lo : S < B
  hi : B ≤ w.heap.size
  len : l.length ≤ 100

/-- All below B stays, the writer aside. -/
structure Kp (S B : Nat) (w w' : World) : Prop where
  below : Below S w w'
  keep : ∀ k, S < k → k < B → w'.heap[k]? = w.heap[k]?

theorem Kp.trans {S B : Nat} {a b c : World} (h : Kp S B a b) (k : Kp S B b c) : Kp S B a c := ⟨h.below.trans k.below, fun j h1 h2 => (k.keep j h1 h2).trans (h.keep j h1 h2)⟩

theorem Owns.under {w : World} {base S j : Nat} {u v : Value} {l : List Int} (h : Owns w base v l) (hS : S < base) : Owns (w.setCell ⟨S, j, none⟩ u) base v l := by
  refine ⟨h.1, ?_⟩
  rcases h.2 with h' | ⟨g, cap, cur, h1, h2, h3, h4⟩
  · exact .inl h'
  · exact .inr ⟨g, cap, cur, h1, h2, by rw [heap_setCell_other w ⟨S, j, none⟩ g u (by show g ≠ S; omega)]; exact h3, h4⟩

theorem Wtr.lt {w : World} {S B : Nat} {e : En} {v : Value} {l : List Int} (h : Wtr w S B e v l) : S < w.heap.size := (Array.getElem?_eq_some_iff.1 h.row).1

theorem Wtr.cell {w : World} {S B : Nat} {e : En} {v : Value} {l : List Int} (h : Wtr w S B e v l) (j : Nat) : w.cell? ⟨S, j, none⟩ = (wtC e v)[j]? := cell_of_row w S j _ _ _ h.row

theorem Wtr.frozen {w : World} {S B : Nat} {e : En} {v : Value} {l : List Int} (h : Wtr w S B e v l) (j : Nat) : w.frozen? ⟨S, j, none⟩ = false := frozen_of_row w S j _ _ h.row

theorem replicate_cells (n : Nat) : (madeCells #[Value.int .u8 0] n).toList = (List.replicate n 0).map (Value.int .u8) := by
  simp only [madeCells, List.map_replicate]
  simp
  apply List.eq_replicate_iff.2
  refine ⟨by simp, ?_⟩
  intro b hb
  obtain ⟨k, _, rfl⟩ := List.mem_map.1 hb
  rw [Nat.mod_one]
  rfl

theorem Wtr.later {w w' : World} {S B : Nat} {e : En} {v : Value} {l : List Int} (h : Wtr w S B e v l) (hb : Below w.heap.size w w') : Wtr w' S B e v l :=
  ⟨(hb.block S h.lt).trans h.row, h.out.later hb, h.lo, Nat.le_trans h.hi hb.size, h.len⟩

theorem owns_shape {w : World} {base : Nat} {v : Value} {l : List Int} (h : Owns w base v l) : ∃ a c, v = .slice a l.length c := by
  rcases h.2 with ⟨rfl, h0⟩ | ⟨g, cap, cur, rfl, _⟩
  · exact ⟨none, 0, by rw [h0]⟩
  · exact ⟨_, _, rfl⟩

/-- The writer's bytes are brought along. -/
theorem Wtr.put {w w1 : World} {S B : Nat} {e : En} {v v' : Value} {l l' : List Int} (h : Wtr w S B e v l) (ho : Owns w1 B v' l') (hb : Below B w w1) (hl : l'.length ≤ 100) : Wtr (w1.setCell ⟨S, 5, none⟩ v') S B e v' l' := by
  have hr : w1.heap[S]? = some (.cells (wtC e v) 175 (0, 0)) := (hb.block S h.lo).trans h.row
  refine ⟨?_, ho.under h.lo, h.lo, by have := hb.size; have := h.hi; simp [World.setCell]; omega, hl⟩
  rw [heap_setCell_same w1 S 5 _ _ v' hr]
  rfl

set_option maxHeartbeats 2000000 in
theorem put_any (S B : Nat) (e : En) (v : Value) (l : List Int) (q : Int) (n : Nat) (x : Int) (w : World) (hW : Wtr w S B e v l) (hq : q = (n : Int)) (h1 : 1 ≤ n) (h2 : n ≤ 8) (hx0 : 0 ≤ x) (hx1 : x < 18446744073709551616) (hl : l.length ≤ 92) :
    Calls Tryz.prog 143 #[.pointer (some ⟨S, 0, none⟩), .int .i64 q, .int .u64 x] w fun r w' => r = .returned (.tuple #[]) ∧ ∃ v', Wtr w' S B e v' (l ++ bigE n x) ∧ Kp S B w w' := by
  subst hq
  obtain ⟨i0, hi, hz0, hz1, hz2⟩ := info_parts info5
  have hS := hW.lt
  go_enter Tryz.func143, Tryz.ntmps143
  go_wp2_with (at_make; refine wpList_make_full _ rfl _ _ 39 rfl w.heap.size 5 i0 (.int .u8 0) 1 Tryz.underlying39 hi hz0 hz1 .i64 .i64 _ _ n rfl rfl rfl rfl (by rw [hz2]; omega) (by unfold maxLen; omega) (Nat.le_refl _) ?_)
  intro w1 hown hgrow
  rw [replicate_cells] at hown
  have hb1 : Below w.heap.size w w1 := (Below.refl _ _).grown hgrow (Nat.le_refl _) (fun k hk => by cases hk)
  have hO : Owns w1 w.heap.size (.slice (some ⟨w.heap.size, 0, none⟩) n n) (List.replicate n 0) := by unfold Owns; rw [List.length_replicate]; exact hown
  have hH := holds8_mk hO (by simp)
  have hs1 : Sees w1 w.heap.size 0 (List.replicate n 0) := by
    intro i hi'; rw [Nat.zero_add]; exact hH.cell i (by simpa using hi')
  clear hown hgrow hO hH
  go_wp2_with fail
  refine (put_yes3 w.heap.size 0 n n (List.replicate n 0) 0 0 n n x _ rfl rfl (by simp) hs1 h1 h2 (by omega) hx0 hx1 (by omega)).mono ?_
  rintro r w2 ⟨G, rfl, hH2, hb2⟩
  rw [lay_zero] at hH2
  have hb02 := hb1.trans (hb2.mono hb1.size)
  have hW2 := hW.later hb02
  have hBt : Bts w2 (.slice (some ⟨G, 0, none⟩) n n) (bigE n x) := by have := hH2.owns.bts (bigE_bytes n x); rwa [← bigE_length n x] at this ⊢
  have hS2 := hW2.lt
  obtain ⟨v', w3, hrun, ho3, hb3⟩ := append_bts w2 B v _ l _ hW2.out hBt hW2.hi (by rw [bigE_length]; omega)
  obtain ⟨va, vc, hv⟩ := owns_shape ho3
  obtain ⟨N, hN⟩ : ∃ N, N = (l ++ bigE n x).length := ⟨_, rfl⟩
  rw [← hN] at hv
  subst hv
  clear hN
  obtain ⟨ua, uc, rfl⟩ := owns_shape hW2.out
  have hW3 := hW2.put ho3 hb3 (by rw [List.length_append, bigE_length]; omega)
  have hSB := hW2.lo
  have hBw := hW.hi
  have hBa : Below S w w2 := hb02.mono (Nat.le_of_lt hS)
  have hBb : Below S w2 w3 := hb3.mono (Nat.le_of_lt hSB)
  have hB : Kp S B w (w3.setCell ⟨S, 5, none⟩ (.slice va N vc)) := ⟨(hBa.trans hBb).setCell (Nat.le_refl _) _, fun k h1 h2 => by
    rw [heap_setCell_other w3 ⟨S, 5, none⟩ k _ (by show k ≠ S; omega), hb3.block k h2, hb02.block k (by omega)]⟩
  have hc5 : w2.cell? ⟨S, 5, none⟩ = some (.slice ua l.length uc) := hW2.cell 5
  have hf5 : w3.frozen? ⟨S, 5, none⟩ = false := by rw [hb3.frozen (p := ⟨S, 5, none⟩) hSB]; exact hW2.frozen 5
  have hc5' : w3.cell? ⟨S, 5, none⟩ = some (.slice ua l.length uc) := by rw [hb3.cell (p := ⟨S, 5, none⟩) hSB]; exact hc5
  clear hBa hBb hSB hBw hs1 hb1 hb2 hb02 hBt hH2 hW hW2 ho3 hb3
  go_wp2_with (at_builtin; refine wpl_append_run rfl _ _ 39 rfl _ _ rfl rfl hrun ?_)
  refine bodyPost_end (results_none rfl _ _ _) rfl ?_
  exact ⟨rfl, _, hW3, hB⟩

set_option maxHeartbeats 1000000 in
theorem kind_m (S B : Nat) (e : En) (v : Value) (l : List Int) (w : World) (hW : Wtr w S B e v l) (h0 : 0 ≤ e.kind) (h1 : e.kind < 9223372036854775808) (hl : l.length ≤ 92) :
    Calls Tryz.prog 121 #[.pointer (some ⟨S, 0, none⟩)] w fun r w' => r = .returned (.tuple #[]) ∧ ∃ v', Wtr w' S B e v' (l ++ bigE 1 e.kind) ∧ Kp S B w w' := by
  have hc : w.cell? ⟨S, 0, none⟩ = some (.int .i64 e.kind) := hW.cell 0
  have H := put_any S B e v l 1 1 e.kind w hW rfl (by decide) (by decide) h0 (by omega) hl
  have hu : IntKind.u64.wrap e.kind = e.kind := u64_id _ h0 (by omega)
  generalize e.kind = x at *
  clear hW
  go_enter Tryz.func121, Tryz.ntmps121
  go_wp2_with fail
  refine H.mono ?_
  rintro r w1 ⟨rfl, v', hW', hb⟩
  go_wp2
  refine bodyPost_end (results_none rfl _ _ _) rfl ?_
  exact ⟨rfl, v', hW', hb⟩

set_option maxHeartbeats 1000000 in
theorem time_m (S B : Nat) (e : En) (v : Value) (l : List Int) (w : World) (hW : Wtr w S B e v l) (h0 : 0 ≤ e.time) (h1 : e.time < 9223372036854775808) (hl : l.length ≤ 92) :
    Calls Tryz.prog 122 #[.pointer (some ⟨S, 0, none⟩)] w fun r w' => r = .returned (.tuple #[]) ∧ ∃ v', Wtr w' S B e v' (l ++ bigE 8 e.time) ∧ Kp S B w w' := by
  have hc : w.cell? ⟨S, 1, none⟩ = some (.int .i64 e.time) := hW.cell 1
  have H := put_any S B e v l 8 8 e.time w hW rfl (by decide) (by decide) h0 (by omega) hl
  have hu : IntKind.u64.wrap e.time = e.time := u64_id _ h0 (by omega)
  generalize e.time = x at *
  clear hW
  go_enter Tryz.func122, Tryz.ntmps122
  go_wp2_with fail
  refine H.mono ?_
  rintro r w1 ⟨rfl, v', hW', hb⟩
  go_wp2
  refine bodyPost_end (results_none rfl _ _ _) rfl ?_
  exact ⟨rfl, v', hW', hb⟩

set_option maxHeartbeats 1000000 in
theorem sub_m (S B : Nat) (e : En) (v : Value) (l : List Int) (w : World) (hW : Wtr w S B e v l) (h0 : 0 ≤ e.sub) (h1 : e.sub < 9223372036854775808) (hl : l.length ≤ 92) :
    Calls Tryz.prog 123 #[.pointer (some ⟨S, 0, none⟩)] w fun r w' => r = .returned (.tuple #[]) ∧ ∃ v', Wtr w' S B e v' (l ++ bigE 4 e.sub) ∧ Kp S B w w' := by
  have hc : w.cell? ⟨S, 2, none⟩ = some (.int .u32 e.sub) := hW.cell 2
  have H := put_any S B e v l 4 4 e.sub w hW rfl (by decide) (by decide) h0 (by omega) hl
  have hu : IntKind.u64.wrap e.sub = e.sub := u64_id _ h0 (by omega)
  generalize e.sub = x at *
  clear hW
  go_enter Tryz.func123, Tryz.ntmps123
  go_wp2_with fail
  refine H.mono ?_
  rintro r w1 ⟨rfl, v', hW', hb⟩
  go_wp2
  refine bodyPost_end (results_none rfl _ _ _) rfl ?_
  exact ⟨rfl, v', hW', hb⟩

set_option maxHeartbeats 1000000 in
theorem addr_m (S B : Nat) (e : En) (v : Value) (l : List Int) (w : World) (hW : Wtr w S B e v l) (h0 : 0 ≤ e.addr) (h1 : e.addr < 9223372036854775808) (hl : l.length ≤ 92) :
    Calls Tryz.prog 124 #[.pointer (some ⟨S, 0, none⟩)] w fun r w' => r = .returned (.tuple #[]) ∧ ∃ v', Wtr w' S B e v' (l ++ bigE 4 e.addr) ∧ Kp S B w w' := by
  have hc : w.cell? ⟨S, 3, none⟩ = some (.int .u32 e.addr) := hW.cell 3
  have H := put_any S B e v l 4 4 e.addr w hW rfl (by decide) (by decide) h0 (by omega) hl
  have hu : IntKind.u64.wrap e.addr = e.addr := u64_id _ h0 (by omega)
  generalize e.addr = x at *
  clear hW
  go_enter Tryz.func124, Tryz.ntmps124
  go_wp2_with fail
  refine H.mono ?_
  rintro r w1 ⟨rfl, v', hW', hb⟩
  go_wp2
  refine bodyPost_end (results_none rfl _ _ _) rfl ?_
  exact ⟨rfl, v', hW', hb⟩

set_option maxHeartbeats 1000000 in
theorem block_m (S B : Nat) (e : En) (v : Value) (l : List Int) (w : World) (hW : Wtr w S B e v l) (h0 : 0 ≤ e.block) (h1 : e.block < 9223372036854775808) (hl : l.length ≤ 92) :
    Calls Tryz.prog 125 #[.pointer (some ⟨S, 0, none⟩)] w fun r w' => r = .returned (.tuple #[]) ∧ ∃ v', Wtr w' S B e v' (l ++ bigE 2 e.block) ∧ Kp S B w w' := by
  have hc : w.cell? ⟨S, 4, none⟩ = some (.int .i64 e.block) := hW.cell 4
  have H := put_any S B e v l 2 2 e.block w hW rfl (by decide) (by decide) h0 (by omega) hl
  have hu : IntKind.u64.wrap e.block = e.block := u64_id _ h0 (by omega)
  generalize e.block = x at *
  clear hW
  go_enter Tryz.func125, Tryz.ntmps125
  go_wp2_with fail
  refine H.mono ?_
  rintro r w1 ⟨rfl, v', hW', hb⟩
  go_wp2
  refine bodyPost_end (results_none rfl _ _ _) rfl ?_
  exact ⟨rfl, v', hW', hb⟩

end Go.Proofs.YtafkkehcacdodaaGreat
