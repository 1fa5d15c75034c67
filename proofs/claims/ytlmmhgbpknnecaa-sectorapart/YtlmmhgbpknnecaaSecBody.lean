/- room and body: the statements' own. -/
import Derived.Test.YtlmmhgbpknnecaaSecDeeds
set_option maxRecDepth 100000
namespace Go.Proofs.Ytlmmhgbpknnecaa
open Go.RowKit

/-- How many bytes the first k deeds have. -/
def sumB (l : List Dd) (k : Nat) : Nat := ((l.take k).map (·.b.length)).sum

def roomB (l : List Dd) : Bool := decide (l.length ≤ 300 ∧ (∀ d ∈ l, d.b.length ≤ 1000) ∧ sumB l l.length ≤ 20000)

theorem sumB_succ (l : List Dd) (k : Nat) (h : k < l.length) : sumB l (k + 1) = sumB l k + l[k].b.length := by
  unfold sumB; rw [List.take_succ_eq_append_getElem h]; simp only [List.map_append, List.map_cons, List.map_nil, List.sum_append, List.sum_cons, List.sum_nil, Nat.add_zero]

theorem room_len (l : List Dd) (h : 300 < l.length) : roomB l = false := by unfold roomB; simp; omega

theorem room_long (l : List Dd) (k : Nat) (h : k < l.length) (hb : 1000 < l[k].b.length) : roomB l = false := by
  unfold roomB; simp
  intro _ hall
  have := hall _ (List.getElem_mem h)
  omega

theorem room_end (l : List Dd) (h : l.length ≤ 300) (hall : ∀ d ∈ l, d.b.length ≤ 1000) : roomB l = decide (sumB l l.length ≤ 20000) := by
  unfold roomB
  by_cases hs : sumB l l.length ≤ 20000
  · simp [h, hs]; exact hall
  · simp [hs]

theorem all_of_take (l : List Dd) (k : Nat) (hk : k = l.length) (h : ∀ d ∈ l.take k, d.b.length ≤ 1000) : ∀ d ∈ l, d.b.length ≤ 1000 := by
  subst hk; rwa [List.take_length] at h

theorem sumB_le (l : List Dd) (k : Nat) (hk : k ≤ 300) (h : ∀ d ∈ l.take k, d.b.length ≤ 1000) : sumB l k ≤ 300000 := by
  have : ∀ (q : List Dd), (∀ d ∈ q, d.b.length ≤ 1000) → (q.map (·.b.length)).sum ≤ q.length * 1000 := by
    intro q
    induction q with
    | nil => intro _; simp
    | cons d q ih =>
      intro hq
      have h1 := ih (fun e he => hq e (by simp [he]))
      have h2 := hq d (by simp)
      simp only [List.map_cons, List.sum_cons, List.length_cons]
      omega
  have h1 := this _ h
  have h2 : (l.take k).length ≤ k := List.length_take_le _ _
  unfold sumB
  omega

theorem Deeds.cell {w : World} {v : Value} {B O : Nat} {l : List Dd} (h : Deeds w v B O l) (i : Nat) (hi : i < l.length) : w.cell? ⟨B, O + i * 5, none⟩ = some (.int .i64 l[i].dO) ∧ w.cell? ⟨B, O + i * 5 + 1, none⟩ = some (.int .i64 l[i].dA) ∧ w.cell? ⟨B, O + i * 5 + 2, none⟩ = some (.int .i64 l[i].dF) ∧ w.cell? ⟨B, O + i * 5 + 3, none⟩ = some (.int .u8 l[i].dC) ∧ w.cell? ⟨B, O + i * 5 + 4, none⟩ = some l[i].vb := by
  obtain ⟨a, cap, _, _, _, _, hd⟩ := h
  have := (hd i hi).2
  exact ⟨this 0 _ rfl, this 1 _ rfl, this 2 _ rfl, this 3 _ rfl, this 4 _ rfl⟩

theorem Deeds.ok {w : World} {v : Value} {B O : Nat} {l : List Dd} (h : Deeds w v B O l) (i : Nat) (hi : i < l.length) : l[i].Ok w := by
  obtain ⟨a, cap, _, _, _, _, hd⟩ := h
  exact (hd i hi).1

theorem Dd.Ok.later {w w' : World} {d : Dd} (h : d.Ok w) (hb : Below w.heap.size w w') : d.Ok w' := ⟨h.bt.later hb, h.o1, h.a1, h.f1, h.c1⟩

theorem Deeds.later {w w' : World} {v : Value} {B O : Nat} {l : List Dd} (h : Deeds w v B O l) (hb : Below w.heap.size w w') : Deeds w' v B O l := by
  obtain ⟨a, cap, h1, h2, h3, h4, hd⟩ := h
  exact ⟨a, cap, h1, h2, h3, h4, fun i hi => ⟨(hd i hi).1.later hb, fun j u hu => cell_later hb ((hd i hi).2 j u hu)⟩⟩

set_option maxHeartbeats 1000000 in
theorem room_ok (w : World) (v : Value) (B O : Nat) (l : List Dd) (h : Deeds w v B O l) : Calls Try.prog 19 #[v] w fun e w' => e = .returned (.bool (roomB l)) ∧ w' = w := by
  have HD : Hid (Deeds w v B O l) := h
  obtain ⟨a, cap, rfl, hl, hm, ha, _⟩ := h
  unfold maxLen at hm
  by_cases h300 : l.length ≤ 300
  · have h300I : ¬ (300 : Int) < (l.length : Int) := by omega
    go_enter Try.func19, Try.ntmps19
    go_wp2
    go_loop [3, 4] (fun n i => ∃ k : Nat, k ≤ l.length ∧ i = .int .i64 k ∧ n = .int .i64 (sumB l k) ∧ ∀ d ∈ l.take k, d.b.length ≤ 1000) (fun _ i => l.length - (intOf i).toNat)
    case atStart => exact ⟨0, Nat.zero_le _, rfl, by simp [sumB], by simp⟩
    case round =>
      obtain ⟨k, hk, rfl, rfl, hall⟩ := hrel
      have hsm := sumB_le l k (by omega) hall
      by_cases hlt : k < l.length
      · have hltI : (k : Int) < (l.length : Int) := by omega
        rcases ha with rfl | hnil
        case inr => rw [hnil] at hlt; simp at hlt
        obtain ⟨_, _, _, _, c4⟩ := HD.out.cell k hlt
        obtain ⟨ba, bc, hvb, _, hbm, _⟩ := bts_src (HD.out.ok k hlt).bt
        rw [hvb] at c4
        unfold maxLen at hbm
        have HS : Hid (sumB l (k + 1) = sumB l k + l[k].b.length) := sumB_succ l k hlt
        have HA : Hid (∀ d ∈ l.take k, d.b.length ≤ 1000) := hall
        clear hall
        by_cases h1000 : l[k].b.length ≤ 1000
        · have h1I : ¬ (1000 : Int) < (l[k].b.length : Int) := by omega
          have HT : Hid (∀ d ∈ l.take (k + 1), d.b.length ≤ 1000) := by
            intro d hd
            rw [List.take_succ_eq_append_getElem hlt, List.mem_append, List.mem_singleton] at hd
            rcases hd with hd | rfl
            · exact HA.out d hd
            · exact h1000
          clear hvb
          generalize l[k].b.length = q at *
          go_wp2
          go_round
          case rel => exact ⟨k + 1, by omega, by go_num, by rw [HS.out]; go_num, HT.out⟩
          case measure => simp [intOf]; omega
        · have h1I : (1000 : Int) < (l[k].b.length : Int) := by omega
          have HR : Hid (roomB l = false) := room_long l k hlt (by omega)
          go_wp2
          go_ret
          exact ⟨ret_bool HR.out.symm, rfl⟩
      · have hke : k = l.length := by omega
        subst hke
        have HR : Hid (roomB l = decide (sumB l l.length ≤ 20000)) := room_end l h300 (all_of_take l _ rfl hall)
        clear hall
        go_wp2
        go_ret
        exact ⟨ret_bool (by rw [HR.out]; simp; omega), rfl⟩
  · have h300I : (300 : Int) < (l.length : Int) := by omega
    have HR : Hid (roomB l = false) := room_len l (by omega)
    go_enter Try.func19, Try.ntmps19
    go_wp2
    go_ret
    exact ⟨ret_bool HR.out.symm, rfl⟩

/-- The bytes of a deed's sector, the first k of them laid. -/
def bodyK (d : Dd) (k : Nat) : List Int := (List.range 64).map fun i => if i < k ∧ d.dF ≤ (i : Int) then d.dC else 0
def bodyL (d : Dd) : List Int := if d.dO = 3 then d.b else bodyK d 64

theorem bodyK_len (d : Dd) (k : Nat) : (bodyK d k).length = 64 := by simp [bodyK]

theorem bodyK_zero (d : Dd) : bodyK d 0 = List.replicate 64 0 := by
  apply List.ext_getElem (by simp [bodyK])
  intro i h1 h2
  rw [List.getElem_replicate]
  simp [bodyK]

theorem bodyK_set (d : Dd) (k : Nat) (hf : d.dF ≤ (k : Int)) : bodyK d (k + 1) = (bodyK d k).set k d.dC := by
  apply List.ext_getElem (by simp [bodyK])
  intro i h1 h2
  simp only [bodyK, List.getElem_map, List.getElem_range, List.getElem_set]
  by_cases e : k = i
  · subst e; simp [hf]
  · rw [if_neg e]
    by_cases hi : i < k
    · have : i < k + 1 := by omega
      simp [hi, this]
    · have : ¬ i < k + 1 := by omega
      simp [hi, this]

theorem bodyK_skip (d : Dd) (k : Nat) (hf : ¬ d.dF ≤ (k : Int)) : bodyK d (k + 1) = bodyK d k := by
  unfold bodyK
  apply List.ext_getElem (by simp)
  intro i h1 h2
  simp only [List.getElem_map, List.getElem_range]
  by_cases e : i = k
  · subst e; simp [hf]
  · have : (i < k + 1) ↔ (i < k) := by omega
    simp only [this]

theorem bodyK_bytes (d : Dd) (k : Nat) (h : 0 ≤ d.dC ∧ d.dC < 256) : isBytes (bodyK d k) := by
  intro z hz
  simp only [bodyK, List.mem_map] at hz
  obtain ⟨i, _, rfl⟩ := hz
  split
  · exact h
  · decide

theorem bodyL_bytes {w : World} (d : Dd) (h : d.Ok w) : isBytes (bodyL d) := by
  unfold bodyL
  split
  · obtain ⟨_, _, _, _, _, _, _, hb, _⟩ := h.bt; exact hb
  · exact bodyK_bytes d 64 h.c1

theorem owns_mono {w : World} {N M : Nat} {v : Value} {l : List Int} (h : Owns w N v l) (hM : M ≤ N) : Owns w M v l := by
  refine ⟨h.1, ?_⟩
  rcases h.2 with h0 | ⟨g, cap, cur, hv, hg, r⟩
  · exact .inl h0
  · exact .inr ⟨g, cap, cur, hv, Nat.le_trans hM hg, r⟩

set_option maxHeartbeats 4000000 in
theorem body_ok (w : World) (d : Dd) (h : d.Ok w) (hreach : d.b.length ≤ 1000) : Calls Try.prog 21 #[.agg (ddC d).toArray] w fun e w' => ∃ v, e = .returned v ∧ Owns w' w.heap.size v (bodyL d) ∧ Below w.heap.size w w' := by
  obtain ⟨dO, dA, dF, dC, vb, b⟩ := d
  have HOK : Hid (Dd.Ok w ⟨dO, dA, dF, dC, vb, b⟩) := h
  obtain ⟨o1, o2⟩ := h.o1
  obtain ⟨f1, f2⟩ := h.f1
  obtain ⟨c1, c2⟩ := h.c1
  obtain ⟨ba, bc, bb, bo, hvb, hbl, hbm, _, hba, hbs⟩ := h.bt
  simp only at o1 o2 f1 f2 c1 c2 hvb hbl hreach hba hbs
  subst hvb
  clear h
  show Calls Try.prog 21 #[.agg #[.int .i64 dO, .int .i64 dA, .int .i64 dF, .int .u8 dC, .slice ba b.length bc]] w _
  have HB0 : Hid (Below w.heap.size w (w.alloc (.cells #[.int .i64 dO, .int .i64 dA, .int .i64 dF, .int .u8 dC, .slice ba b.length bc] 43))) := below_alloc _ _
  have hbk := blk_new w #[.int .i64 dO, .int .i64 dA, .int .i64 dF, .int .u8 dC, .slice ba b.length bc] 43
  go_enter Try.func21, Try.ntmps21
  go_wp2_with (go_at_call 12; refine (ones_ok _ 0).mono ?_; rintro e w1 ⟨v1, rfl, hO, hB1⟩)
  obtain ⟨G, cap, hv1, hH⟩ := holds8_of_owns hO (by simp) (by omega : 0 < 64)
  subst hv1
  have hcm : cap ≤ maxLen ∧ 64 ≤ cap := by
    rcases hH.2.2 with ⟨h, _⟩ | ⟨g', cap', cur, hv, _, _, hn, hm, _⟩
    · cases h
    · simp only [Value.slice.injEq, true_and] at hv
      obtain ⟨_, rfl⟩ := hv
      exact ⟨hm, hn⟩
  obtain ⟨hcm1, hcm2⟩ := hcm
  unfold maxLen at hcm1
  clear hO
  have HD : Hid (∀ wr, Below (w.heap.size + 1) (w.alloc (.cells #[.int .i64 dO, .int .i64 dA, .int .i64 dF, .int .u8 dC, .slice ba b.length bc] 43)) wr → Blk wr w.heap.size [.int .i64 dO, .int .i64 dA, .int .i64 dF, .int .u8 dC, .slice ba b.length bc]) := fun wr hr => hbk.same (hr.block _ (by omega))
  rw [World.size_alloc] at hH hB1
  clear hbk
  go_loopw [4] (fun i wr => ∃ k : Nat, k ≤ 64 ∧ i = .int .i64 k ∧ Holds8 wr (w.heap.size + 1) G 64 cap (bodyK ⟨dO, dA, dF, dC, .slice ba b.length bc, b⟩ k) ∧ Below (w.heap.size + 1) (w.alloc (.cells #[.int .i64 dO, .int .i64 dA, .int .i64 dF, .int .u8 dC, .slice ba b.length bc] 43)) wr) (fun i _ => 64 - (intOf i).toNat)
  case atStart => exact ⟨0, Nat.zero_le _, rfl, by rw [bodyK_zero]; exact hH, hB1⟩
  case round =>
    obtain ⟨k, hk, rfl, hHr, hbel⟩ := hrel
    have hb := HD.out wr hbel
    have q2 := hb.cell 2
    have q3 := hb.cell 3
    simp only [List.getElem?_cons_succ, List.getElem?_cons_zero] at q2 q3
    have hGb := hHr.base
    by_cases hlt : k < 64
    · have hltI : (k : Int) < 64 := by omega
      have hcell := hHr.cell k hlt
      have hfz : wr.frozen? ⟨G, k, none⟩ = false := hHr.2.frozenAt k
      have HH : Hid (Holds8 wr (w.heap.size + 1) G 64 cap (bodyK ⟨dO, dA, dF, dC, .slice ba b.length bc, b⟩ k)) := hHr
      clear hHr
      by_cases hf : dF ≤ (k : Int)
      · have HS := bodyK_set ⟨dO, dA, dF, dC, .slice ba b.length bc, b⟩ k hf
        have HS' : Hid _ := HS
        clear HS
        go_wp2
        go_roundw
        case rel => exact ⟨k + 1, by omega, by go_num, by rw [HS'.out]; exact HH.out.store k _, hbel.setCell hGb _⟩
        case measure => simp [intOf]; omega
      · have HS := bodyK_skip ⟨dO, dA, dF, dC, .slice ba b.length bc, b⟩ k hf
        have HS' : Hid _ := HS
        clear HS
        have hf' : (k : Int) < dF := by omega
        go_wp2
        go_roundw
        case rel => exact ⟨k + 1, by omega, by go_num, by rw [HS'.out]; exact HH.out, hbel⟩
        case measure => simp [intOf]; omega
    · have hke : k = 64 := by omega
      subst hke
      have q0 := hb.cell 0
      have q4 := hb.cell 4
      simp only [List.getElem?_cons_succ, List.getElem?_cons_zero] at q0 q4
      have HBF : Hid (Below w.heap.size w wr) := HB0.out.trans (hbel.mono (by omega))
      have HH : Hid (Holds8 wr (w.heap.size + 1) G 64 cap (bodyK ⟨dO, dA, dF, dC, .slice ba b.length bc, b⟩ 64)) := hHr
      clear hHr hbel hb
      by_cases h3 : dO = 3
      · have HE : Hid (bodyL ⟨dO, dA, dF, dC, .slice ba b.length bc, b⟩ = b) := by show _ = _; unfold bodyL; rw [if_pos h3]
        have HC := copy_any ba bb bo b.length bc b wr hbl rfl hba (hbs.later HBF.out) (by omega)
        go_wp2_with (go_at_call 37; refine HC.mono ?_; rintro e w3 ⟨v3, rfl, hO3, hB3⟩)
        go_ret
        refine ⟨_, rfl, ?_, HBF.out.trans (hB3.mono HBF.out.size)⟩
        rw [HE.out]
        exact owns_mono hO3 HBF.out.size
      · have HE : Hid (bodyL ⟨dO, dA, dF, dC, .slice ba b.length bc, b⟩ = bodyK ⟨dO, dA, dF, dC, .slice ba b.length bc, b⟩ 64) := by show _ = _; unfold bodyL; rw [if_neg h3]
        go_wp2
        go_ret
        refine ⟨_, rfl, ?_, HBF.out⟩
        rw [HE.out]
        exact owns_mono HH.out.owns (by omega)

end Go.Proofs.Ytlmmhgbpknnecaa
