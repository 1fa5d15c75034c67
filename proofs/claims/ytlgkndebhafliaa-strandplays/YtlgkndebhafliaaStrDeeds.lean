/- Deeds of a strand: from what the form reads to the view that the walks take; room. -/
import Derived.Test.YtlgkndebhafliaaStrNum
import Derived.Deep.Slices
set_option maxRecDepth 100000
namespace Go.Proofs.Ytlgkndebhafliaa
open Go.ChangeShapes Go.WideShapes Go.ChangeAt Go.RowKit

/-- A deed in numbers, with its slice. -/
structure De : Type where
  dO : Int
  vb : Value
  b : List Int

def deC (d : De) : List Value := [.int .i64 d.dO, d.vb]

structure De.Ok (w : World) (d : De) : Prop where
  bt : Bts w d.vb d.b
  o1 : -9223372036854775808 ≤ d.dO ∧ d.dO < 9223372036854775808

/-- A slice of deeds. -/
def Dees (w : World) (v : Value) (B O : Nat) (l : List De) : Prop :=
  ∃ (a : Option Addr) (cap : Nat), v = .slice a l.length cap ∧ l.length ≤ cap ∧ cap ≤ maxLen ∧ (a = some ⟨B, O, none⟩ ∨ l = []) ∧ ∀ i (h : i < l.length), l[i].Ok w ∧ w.rangeAt B (O + i * 2) (deC l[i])

def IsDees (w : World) (v : Value) : Prop := ∃ B O l, Dees w v B O l

theorem bts_of_read8 {H : Type} {enc : TypeId × Value → H} {P : Program} {w : World} {base : Nat} {held : Bool} {t e : TypeId} {fuel : Nat} {v : Value} {x : DataW H × List MemPlace}
    (ht : P.underlying t = some (.slice e)) (he : P.underlying e = some (.int .u8)) (hc : P.cellsOf e = 1)
    (h : DataW.trod enc P w base (fun _ => true) held fuel t [v] = some x) : ∃ l, Bts w v l := by
  rcases open_ints ht he hc h with ⟨hcs, _⟩ | ⟨a, len, cap, zs, hcs, _, hl, hm, hz, hx, hcell, hwz⟩
  · simp only [List.cons.injEq, and_true] at hcs
    subst hcs
    exact ⟨[], bts_nil w⟩
  · simp only [List.cons.injEq, and_true] at hcs
    subst hcs
    simp only [if_true] at hz
    have hlen : (zs.take len).length = len := by simp; omega
    refine ⟨zs.take len, ⟨some a, cap, a.block, a.off, by rw [hlen], by omega, hm, ?_, ?_, ?_⟩⟩
    · intro z hz'; exact byte_of_wf (hwz z (List.mem_of_mem_take hz'))
    · by_cases h0 : len = 0
      · right; subst h0; simp
      · left
        obtain ⟨b, off, spot⟩ := a
        have hs : spot = none := by simpa [Addr.add] using World.cell?_spot (hcell 0 (by omega))
        subst hs; rfl
    · intro i hi
      rw [hlen] at hi
      obtain ⟨b, off, spot⟩ := a
      have hs : spot = none := by simpa [Addr.add] using World.cell?_spot (hcell 0 (by omega))
      subst hs
      have hc := hcell i (by omega)
      rw [add_at] at hc
      rw [getD_take _ _ _ hi]
      exact hc

theorem cells38 : Try.prog.cellsOf 3 = 1 := by kernel_rfl

theorem cellsDe : Try.prog.cellsOf 51 = 2 := by kernel_rfl

theorem list2 {α : Type} {l : List α} (h : l.length = 2) : ∃ a b, l = [a, b] := by
  match l, h with
  | [a, b], _ => exact ⟨a, b, rfl⟩

section
variable {H : Type} {enc : TypeId × Value → H} {w : World} {base b0 : Nat} {held : Bool} {r : Reach} {v : Value} {d : DataW H} {ps : List MemPlace}

set_option maxRecDepth 100000 in
theorem dee_of {n : Nat} {cs : List Value} {x : DataW H × List MemPlace} (hf : DataW.trod enc Try.prog w base (fun _ => true) held n 51 cs = some x) : ∃ q : De, cs = deC q ∧ q.Ok w := by
  obtain ⟨xs, m, _, hx, hl, hlen, hfield⟩ := DataW.trod_struct Try.underlying51 hf
  rw [cellsDe] at hl
  obtain ⟨c0, c1, rfl⟩ := list2 hl
  obtain ⟨y0, y1, rfl⟩ := list2 hlen
  have t0 : DataW.trod enc Try.prog w base (fun _ => true) held m 3 [c0] = some y0 := by
    have := hfield 0 _ rfl
    simpa [cells38] using this
  have t1 : DataW.trod enc Try.prog w base (fun _ => true) held m 23 [c1] = some y1 := by
    have := hfield 1 _ rfl
    simpa [cells26] using this
  obtain ⟨z0, e0, _, w0⟩ := DataW.trod_int Try.underlying3 t0
  obtain ⟨l, hb⟩ := bts_of_read8 Try.underlying23 Try.underlying5 cells5 t1
  simp at e0
  subst e0
  exact ⟨⟨z0, c1, l⟩, rfl, hb, i64_of_wf w0⟩

theorem viewDe (hv : Value.okWide Try.prog w r b0 45 v) (h : DataW.Trod enc Try.prog w base (fun _ => true) held 45 v d ps) (_ : ∀ n ∈ d.weights Try.prog 45, n ≤ reachBytes) : IsDees w v := by
  obtain ⟨a0, len0, cap0, rfl⟩ := okWide_slice Try.underlying45 hv
  obtain ⟨fuel, hf⟩ := h
  rcases Go.Deep.open_slice Try.underlying45 hf with ⟨hcs, _⟩ | ⟨a, len, cap, m, n, D, Pl, hcs, _, hl, hm, hmm, _, hrow⟩
  · simp [Value.cells] at hcs
    obtain ⟨rfl, rfl, rfl⟩ := hcs
    exact ⟨0, 0, [], none, 0, rfl, by simp, by decide, .inr rfl, fun i hi => by simp at hi⟩
  · simp [Value.cells] at hcs
    obtain ⟨rfl, rfl, rfl⟩ := hcs
    simp only [if_true] at hmm
    subst hmm
    rw [cellsDe] at hrow
    obtain ⟨b, off, spot⟩ := a
    have hq : ∀ i, i < len0 → ∃ q : De, q.Ok w ∧ ∀ j, j < 2 → w.cell? (((⟨b, off, spot⟩ : Addr).add (i * 2)).add j) = (deC q)[j]? := by
      intro i hi
      obtain ⟨cs', h1, h2⟩ := hrow i (by omega)
      obtain ⟨q, rfl, hq⟩ := dee_of h2
      unfold World.cells? at h1
      split at h1
      case isFalse => cases h1
      exact ⟨q, hq, fun j hj => mapM_some_get h1 j j (by simp [hj])⟩
    have hspot : 0 < len0 → spot = none := fun h0 => by
      obtain ⟨q, _, hget⟩ := hq 0 h0
      have h0' := hget 0 (by omega)
      have h00 : (deC q)[0]? = some (.int .i64 q.dO) := rfl
      rw [h00] at h0'
      simpa [Addr.add] using World.cell?_spot h0'
    haveI : Inhabited De := ⟨⟨0, .slice none 0 0, []⟩⟩
    obtain ⟨f, hf'⟩ := Go.Deep.choose_lt (α := De) (n := len0) (p := fun i q => q.Ok w ∧ ∀ j, j < 2 → w.cell? (((⟨b, off, spot⟩ : Addr).add (i * 2)).add j) = (deC q)[j]?) hq
    refine ⟨b, off, (List.range len0).map f, _, _, by simp; rfl, by simpa using hl, hm, ?_, ?_⟩
    · by_cases h0 : len0 = 0
      · right; subst h0; simp
      · left; rw [hspot (by omega)]
    · intro i hi
      simp at hi
      obtain ⟨h1, h2⟩ := hf' i hi
      have hs := hspot (by omega)
      subst hs
      simp only [List.getElem_map, List.getElem_range]
      refine ⟨h1, fun j u hu => ?_⟩
      have hj : j < 2 := by
        have := (List.getElem?_eq_some_iff.1 hu).1
        simpa [deC] using this
      have := h2 j hj
      rw [Go.Deep.add_add, add_at, ← Nat.add_assoc] at this
      rw [this]; exact hu
end

theorem De.Ok.later {w w' : World} {d : De} (h : d.Ok w) (hb : Below w.heap.size w w') : d.Ok w' := ⟨h.bt.later hb, h.o1⟩

theorem Dees.later {w w' : World} {v : Value} {B O : Nat} {l : List De} (h : Dees w v B O l) (hb : Below w.heap.size w w') : Dees w' v B O l := by
  obtain ⟨a, cap, h1, h2, h3, h4, hd⟩ := h
  exact ⟨a, cap, h1, h2, h3, h4, fun i hi => ⟨(hd i hi).1.later hb, fun j u hu => cell_later hb ((hd i hi).2 j u hu)⟩⟩

theorem Dees.cell {w : World} {v : Value} {B O : Nat} {l : List De} (h : Dees w v B O l) (i : Nat) (hi : i < l.length) : w.cell? ⟨B, O + i * 2, none⟩ = some (.int .i64 l[i].dO) ∧ w.cell? ⟨B, O + i * 2 + 1, none⟩ = some l[i].vb := by
  obtain ⟨a, cap, _, _, _, _, hd⟩ := h
  have := (hd i hi).2
  exact ⟨by have := this 0 _ rfl; rwa [Nat.add_zero] at this, this 1 _ rfl⟩

theorem Dees.ok {w : World} {v : Value} {B O : Nat} {l : List De} (h : Dees w v B O l) (i : Nat) (hi : i < l.length) : l[i].Ok w := by
  obtain ⟨a, cap, _, _, _, _, hd⟩ := h
  exact (hd i hi).1

def sumD (l : List De) (k : Nat) : Nat := ((l.take k).map fun d => d.b.length).sum
def roomD (l : List De) : Bool := decide (l.length ≤ 200 ∧ (∀ d ∈ l, d.b.length ≤ 1000) ∧ sumD l l.length ≤ 20000)

theorem sumD_succ (l : List De) (k : Nat) (h : k < l.length) : sumD l (k + 1) = sumD l k + l[k].b.length := by
  unfold sumD
  rw [List.take_succ_eq_append_getElem h, List.map_append, List.sum_append]
  simp only [List.map_cons, List.map_nil, List.sum_cons, List.sum_nil, Nat.add_zero]

theorem sumD_le (l : List De) (k : Nat) (h : ∀ d ∈ l.take k, d.b.length ≤ 1000) : sumD l k ≤ 1000 * (l.take k).length := by
  unfold sumD
  generalize l.take k = m at *
  induction m with
  | nil => simp
  | cons d m ih =>
    have := ih (fun x hx => h x (by simp [hx]))
    have := h d (by simp)
    simp only [List.map_cons, List.sum_cons, List.length_cons]
    omega

set_option maxHeartbeats 1000000 in
theorem room8_ok (w : World) (v : Value) (B O : Nat) (l : List De) (h : Dees w v B O l) : Calls Try.prog 21 #[v] w fun e w' => e = .returned (.bool (roomD l)) ∧ w' = w := by
  have HD : Hid (Dees w v B O l) := h
  obtain ⟨a, cap, rfl, hl, hm, ha, _⟩ := h
  unfold maxLen at hm
  by_cases h300 : l.length ≤ 200
  · have h300I : ¬ (200 : Int) < (l.length : Int) := by omega
    go_enter Try.func21, Try.ntmps21
    go_wp2
    go_loop [3, 4] (fun n i => ∃ k : Nat, k ≤ l.length ∧ i = .int .i64 k ∧ n = .int .i64 (sumD l k) ∧ ∀ d ∈ l.take k, d.b.length ≤ 1000) (fun _ i => l.length - (intOf i).toNat)
    case atStart => exact ⟨0, Nat.zero_le _, rfl, by simp [sumD], by simp⟩
    case round =>
      obtain ⟨k, hk, rfl, rfl, hall⟩ := hrel
      have hsm := sumD_le l k hall
      have hsm2 : sumD l k ≤ 200000 := by
        have : (l.take k).length ≤ 200 := by simp; omega
        omega
      clear hsm
      by_cases hlt : k < l.length
      · have hltI : (k : Int) < (l.length : Int) := by omega
        rcases ha with rfl | hnil
        case inr => rw [hnil] at hlt; simp at hlt
        obtain ⟨_, c4⟩ := HD.out.cell k hlt
        obtain ⟨ba, bc, hvb, _, hbm, _⟩ := bts_src (HD.out.ok k hlt).bt
        rw [hvb] at c4
        unfold maxLen at hbm
        have HS : Hid (sumD l (k + 1) = sumD l k + l[k].b.length) := sumD_succ l k hlt
        have HA : Hid (∀ d ∈ l.take k, d.b.length ≤ 1000) := hall
        clear hall
        by_cases h1000 : l[k].b.length ≤ 1000
        · have h1I : ¬ (1000 : Int) < (l[k].b.length : Int) := by omega
          have HT : Hid (∀ d ∈ l.take (k + 1), d.b.length ≤ 1000) := by
            intro d hd
            rw [List.take_succ_eq_append_getElem hlt, List.mem_append, List.mem_singleton] at hd
            rcases hd with hd | rfl
            · exact HA.out d hd
            · exact h1000
          clear hvb
          generalize l[k].b.length = q at *
          go_wp2
          go_round
          case rel => exact ⟨k + 1, by omega, by go_num, by rw [HS.out]; go_num, HT.out⟩
          case measure => simp [intOf]; omega
        · have h1I : (1000 : Int) < (l[k].b.length : Int) := by omega
          have HR : Hid (roomD l = false) := by
            show _ = _
            unfold roomD
            rw [decide_eq_false_iff_not]
            rintro ⟨_, h2, _⟩
            have := h2 l[k] (List.getElem_mem hlt)
            omega
          go_wp2
          go_ret
          exact ⟨ret_bool HR.out.symm, rfl⟩
      · have hke : k = l.length := by omega
        subst hke
        have hall' : ∀ d ∈ l, d.b.length ≤ 1000 := by rwa [List.take_length] at hall
        have HR : Hid (roomD l = decide (sumD l l.length ≤ 20000)) := by
          show _ = _
          unfold roomD
          exact decide_eq_decide.2 ⟨fun h => h.2.2, fun h => ⟨h300, hall', h⟩⟩
        clear hall
        go_wp2
        go_ret
        exact ⟨ret_bool (by rw [HR.out]; simp; omega), rfl⟩
  · have h300I : (200 : Int) < (l.length : Int) := by omega
    have HR : Hid (roomD l = false) := by
      show _ = _
      unfold roomD
      rw [decide_eq_false_iff_not]
      rintro ⟨h1, _⟩
      omega
    go_enter Try.func21, Try.ntmps21
    go_wp2
    go_ret
    exact ⟨ret_bool HR.out.symm, rfl⟩

theorem room_few {l : List De} (h : roomD l = true) : l.length ≤ 200 ∧ (∀ d ∈ l, d.b.length ≤ 1000) ∧ sumD l l.length ≤ 20000 := of_decide_eq_true h

theorem sumD_mono (l : List De) (k : Nat) : sumD l k ≤ sumD l l.length := by
  unfold sumD
  rw [List.take_length]
  conv => rhs; rw [← List.take_append_drop k l]
  rw [List.map_append, List.sum_append]
  omega

end Go.Proofs.Ytlgkndebhafliaa
