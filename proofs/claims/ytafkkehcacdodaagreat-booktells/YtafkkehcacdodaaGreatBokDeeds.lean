/- Outcomes; entries compared; deeds: from what the form reads to the view that the walks take; room. -/
import Derived.Test.YtafkkehcacdodaaGreatBokFresh
import Derived.Test.YtafkkehcacdodaaGreatSecMore
import Derived.Deep.Slices
set_option maxRecDepth 100000
namespace Go.Proofs.YtafkkehcacdodaaGreat
open Go.ChangeShapes Go.WideShapes Go.ChangeAt Go.RowKit Go.Shelf

/-- Outcomes, with a book on the disk. -/
theorem boutcomes_ok (w : World) (tag : Nat → Nat) (base o D B : Nat) (b : Bm) (h : BK w tag base o D B b) (hbase : base ≤ w.heap.size) (v : Value) (l : List Int) (hv : Bts w v l) (hout : b.s.outs.length + l.length ≤ 1000000) :
    Calls Tryz.prog 11 #[.pointer (some ⟨D, 0, none⟩), v] w fun e w' => e = .returned (.tuple #[]) ∧ ∃ tag', StepR tag tag' base o o w w' ∧ BK w' tag' base o D B ⟨b.s.add l, b.t, b.L, b.D⟩ := by
  obtain ⟨p, q, kv, dv, h0, h1, h2, h3⟩ := h
  refine (outcomes_okD w tag base o b.s p h1 hbase v l hv hout D h0).mono ?_
  rintro e w' ⟨rfl, p', tag', k0, k1, k2⟩
  have hS := k2.range (Nat.le_refl o) (Nat.le_refl o)
  exact ⟨rfl, tag', hS, p', q, kv, dv, k0, k1, h2.otherR hS (by omega), h3.otherR hS (by omega)⟩

/-- Are two entries one? -/
def sameE (a b : En) : Bool := a.kind == b.kind && (a.time == b.time && (a.sub == b.sub && (a.addr == b.addr && a.block == b.block)))

theorem sameE_iff (a b : En) : sameE a b = true ↔ a = b := by
  obtain ⟨a0, a1, a2, a3, a4⟩ := a
  obtain ⟨b0, b1, b2, b3, b4⟩ := b
  simp [sameE]

theorem eqE5 (a b : En) (w : World) : (binOp .eql 73 (enV a) (enV b)).run Tryz.prog w = .ok (.bool (sameE a b)) w := by
  have hS : Tryz.prog.underlying 73 = some (.struct (Tryz.prog.fieldsOf 73)) := by kernel_rfl
  have hp : Tryz.prog.stoodInHeld 73 = false := by kernel_rfl
  have u3 := Tryz.underlying3
  have a3 := Tryz.isAgg3
  have z3 := Tryz.sizeOf3
  have u2 := Tryz.underlying2
  have a2 := Tryz.isAgg2
  have z2 := Tryz.sizeOf2
  have uU := Tryz.underlying38
  have aU := Tryz.isAgg38
  have zU := Tryz.sizeOf38
  rw [run_eql_struct, show (10000 : Nat) = 9999 + 1 from rfl, run_equalIn_agg w 9999 73 _ _ hS hp]
  simp only [Program.fieldsOf, Tryz.underlying73]
  go_simp
  unfold sameE
  by_cases h0 : a.kind = b.kind
  · by_cases h1 : a.time = b.time
    · by_cases h2 : a.sub = b.sub
      · by_cases h3 : a.addr = b.addr
        · by_cases h4 : a.block = b.block
          · simp [h0, h1, h2, h3, h4]
          · simp [h0, h1, h2, h3, h4]
        · simp [h0, h1, h2, h3]
      · simp [h0, h1, h2]
    · simp [h0, h1]
  · simp [h0]

theorem guardE5 (op : BinOp) (x y : Operand) (xs ys : Array Value) (w : World) : (eqGuard op 73 x y (.agg xs) (.agg ys)).run Tryz.prog w = .ok () w :=
  run_eqGuard_agg w op 73 x y xs ys (by kernel_rfl)

/-- A deed in numbers, with its slice. -/
structure Dd : Type where
  dO : Int
  tm : Int
  sub : Int
  addr : Int
  blk : Int
  vb : Value
  b : List Int

def ddC (d : Dd) : List Value := [.int .i64 d.dO, .int .i64 d.tm, .int .u32 d.sub, .int .u32 d.addr, .int .i64 d.blk, d.vb]

structure Dd.Ok (w : World) (d : Dd) : Prop where
  bt : Bts w d.vb d.b
  o1 : -9223372036854775808 ≤ d.dO ∧ d.dO < 9223372036854775808
  t1 : -9223372036854775808 ≤ d.tm ∧ d.tm < 9223372036854775808
  s1 : 0 ≤ d.sub ∧ d.sub < 4294967296
  a1 : 0 ≤ d.addr ∧ d.addr < 4294967296
  b1 : -9223372036854775808 ≤ d.blk ∧ d.blk < 9223372036854775808

/-- A slice of deeds. -/
def Dds (w : World) (v : Value) (B O : Nat) (l : List Dd) : Prop :=
  ∃ (a : Option Addr) (cap : Nat), v = .slice a l.length cap ∧ l.length ≤ cap ∧ cap ≤ maxLen ∧ (a = some ⟨B, O, none⟩ ∨ l = []) ∧ ∀ i (h : i < l.length), l[i].Ok w ∧ w.rangeAt B (O + i * 6) (ddC l[i])

def IsDds (w : World) (v : Value) : Prop := ∃ B O l, Dds w v B O l

theorem bts_read11 {H : Type} {enc : TypeId × Value → H} {P : Program} {w : World} {base : Nat} {held : Bool} {t e : TypeId} {fuel : Nat} {v : Value} {x : DataW H × List MemPlace}
    (ht : P.underlying t = some (.slice e)) (he : P.underlying e = some (.int .u8)) (hc : P.cellsOf e = 1)
    (h : DataW.trod enc P w base (fun _ => true) held fuel t [v] = some x) : ∃ l, Bts w v l := by
  rcases open_ints ht he hc h with ⟨hcs, _⟩ | ⟨a, len, cap, zs, hcs, _, hl, hm, hz, hx, hcell, hwz⟩
  · simp only [List.cons.injEq, and_true] at hcs
    subst hcs
    exact ⟨[], bts_nil w⟩
  · simp only [List.cons.injEq, and_true] at hcs
    subst hcs
    simp only [if_true] at hz
    have hlen : (zs.take len).length = len := by simp; omega
    refine ⟨zs.take len, ⟨some a, cap, a.block, a.off, by rw [hlen], by omega, hm, ?_, ?_, ?_⟩⟩
    · intro z hz'; exact byte_of_wf (hwz z (List.mem_of_mem_take hz'))
    · by_cases h0 : len = 0
      · right; subst h0; simp
      · left
        obtain ⟨b, off, spot⟩ := a
        have hs : spot = none := by simpa [Addr.add] using World.cell?_spot (hcell 0 (by omega))
        subst hs; rfl
    · intro i hi
      rw [hlen] at hi
      obtain ⟨b, off, spot⟩ := a
      have hs : spot = none := by simpa [Addr.add] using World.cell?_spot (hcell 0 (by omega))
      subst hs
      have hc := hcell i (by omega)
      rw [add_at] at hc
      rw [getD_take _ _ _ hi]
      exact hc

theorem u32_wf11 {x : Int} (h : (Lit.int .u32 x).wf = true) : 0 ≤ x ∧ x < 4294967296 := by
  simp [Lit.wf, IntKind.min, IntKind.max, IntKind.signed, IntKind.bits] at h
  omega

theorem cells38b : Tryz.prog.cellsOf 3 = 1 := by kernel_rfl

theorem cells2b : Tryz.prog.cellsOf 2 = 1 := by kernel_rfl

theorem cellsU32 : Tryz.prog.cellsOf 38 = 1 := by kernel_rfl

theorem cellsBs : Tryz.prog.cellsOf 39 = 1 := by kernel_rfl

theorem cells5b : Tryz.prog.cellsOf 5 = 1 := by kernel_rfl

theorem cellsDd : Tryz.prog.cellsOf 41 = 6 := by kernel_rfl

theorem list6b {α : Type} {l : List α} (h : l.length = 6) : ∃ a b c d e f, l = [a, b, c, d, e, f] := by
  match l, h with
  | [a, b, c, d, e, f], _ => exact ⟨a, b, c, d, e, f, rfl⟩

section
variable {H : Type} {enc : TypeId × Value → H} {w : World} {base b0' : Nat} {held : Bool} {r : Reach} {v : Value} {d : DataW H} {ps : List MemPlace}

set_option maxRecDepth 100000 in
theorem dd_of {n : Nat} {cs : List Value} {x : DataW H × List MemPlace} (hf : DataW.trod enc Tryz.prog w base (fun _ => true) held n 41 cs = some x) : ∃ q : Dd, cs = ddC q ∧ q.Ok w := by
  obtain ⟨xs, m, _, hx, hl, hlen, hfield⟩ := DataW.trod_struct Tryz.underlying41 hf
  rw [cellsDd] at hl
  obtain ⟨c0, c1, c2, c3, c4, c5, rfl⟩ := list6b hl
  obtain ⟨y0, y1, y2, y3, y4, y5, rfl⟩ := list6b hlen
  have t0 : DataW.trod enc Tryz.prog w base (fun _ => true) held m 3 [c0] = some y0 := by
    have := hfield 0 _ rfl
    simpa [cells38b] using this
  have t1 : DataW.trod enc Tryz.prog w base (fun _ => true) held m 2 [c1] = some y1 := by
    have := hfield 1 _ rfl
    simpa [cells38b, cells2b] using this
  have t2 : DataW.trod enc Tryz.prog w base (fun _ => true) held m 38 [c2] = some y2 := by
    have := hfield 2 _ rfl
    simpa [cells38b, cells2b, cellsU32] using this
  have t3 : DataW.trod enc Tryz.prog w base (fun _ => true) held m 38 [c3] = some y3 := by
    have := hfield 3 _ rfl
    simpa [cells38b, cells2b, cellsU32] using this
  have t4 : DataW.trod enc Tryz.prog w base (fun _ => true) held m 3 [c4] = some y4 := by
    have := hfield 4 _ rfl
    simpa [cells38b, cells2b, cellsU32] using this
  have t5 : DataW.trod enc Tryz.prog w base (fun _ => true) held m 39 [c5] = some y5 := by
    have := hfield 5 _ rfl
    simpa [cells38b, cells2b, cellsU32, cellsBs] using this
  obtain ⟨z0, e0, _, w0⟩ := DataW.trod_int Tryz.underlying3 t0
  obtain ⟨z1, e1, _, w1⟩ := DataW.trod_int Tryz.underlying2 t1
  obtain ⟨z2, e2, _, w2⟩ := DataW.trod_int Tryz.underlying38 t2
  obtain ⟨z3, e3, _, w3⟩ := DataW.trod_int Tryz.underlying38 t3
  obtain ⟨z4, e4, _, w4⟩ := DataW.trod_int Tryz.underlying3 t4
  obtain ⟨l, hb⟩ := bts_read11 Tryz.underlying39 Tryz.underlying5 cells5b t5
  simp at e0 e1 e2 e3 e4
  subst e0 e1 e2 e3 e4
  exact ⟨⟨z0, z1, z2, z3, z4, c5, l⟩, rfl, hb, i64_of_wf w0, i64_of_wf w1, u32_wf11 w2, u32_wf11 w3, i64_of_wf w4⟩

theorem viewDd (hv : Value.okWide Tryz.prog w r b0' 22 v) (h : DataW.Trod enc Tryz.prog w base (fun _ => true) held 22 v d ps) (_ : ∀ n ∈ d.weights Tryz.prog 22, n ≤ reachBytes) : IsDds w v := by
  obtain ⟨a0, len0, cap0, rfl⟩ := okWide_slice Tryz.underlying22 hv
  obtain ⟨fuel, hf⟩ := h
  rcases Go.Deep.open_slice Tryz.underlying22 hf with ⟨hcs, _⟩ | ⟨a, len, cap, m, n, D, Pl, hcs, _, hl, hm, hmm, _, hrow⟩
  · simp [Value.cells] at hcs
    obtain ⟨rfl, rfl, rfl⟩ := hcs
    exact ⟨0, 0, [], none, 0, rfl, by simp, by decide, .inr rfl, fun i hi => by simp at hi⟩
  · simp [Value.cells] at hcs
    obtain ⟨rfl, rfl, rfl⟩ := hcs
    simp only [if_true] at hmm
    subst hmm
    rw [cellsDd] at hrow
    obtain ⟨b, off, spot⟩ := a
    have hq : ∀ i, i < len0 → ∃ q : Dd, q.Ok w ∧ ∀ j, j < 6 → w.cell? (((⟨b, off, spot⟩ : Addr).add (i * 6)).add j) = (ddC q)[j]? := by
      intro i hi
      obtain ⟨cs', h1, h2⟩ := hrow i (by omega)
      obtain ⟨q, rfl, hq⟩ := dd_of h2
      unfold World.cells? at h1
      split at h1
      case isFalse => cases h1
      exact ⟨q, hq, fun j hj => mapM_some_get h1 j j (by simp [hj])⟩
    have hspot : 0 < len0 → spot = none := fun h0 => by
      obtain ⟨q, _, hget⟩ := hq 0 h0
      have h0' := hget 0 (by omega)
      have h00 : (ddC q)[0]? = some (.int .i64 q.dO) := rfl
      rw [h00] at h0'
      simpa [Addr.add] using World.cell?_spot h0'
    haveI : Inhabited Dd := ⟨⟨0, 0, 0, 0, 0, .slice none 0 0, []⟩⟩
    obtain ⟨f, hf'⟩ := Go.Deep.choose_lt (α := Dd) (n := len0) (p := fun i q => q.Ok w ∧ ∀ j, j < 6 → w.cell? (((⟨b, off, spot⟩ : Addr).add (i * 6)).add j) = (ddC q)[j]?) hq
    refine ⟨b, off, (List.range len0).map f, _, _, by simp; rfl, by simpa using hl, hm, ?_, ?_⟩
    · by_cases h0 : len0 = 0
      · right; subst h0; simp
      · left; rw [hspot (by omega)]
    · intro i hi
      simp at hi
      obtain ⟨h1, h2⟩ := hf' i hi
      have hs := hspot (by omega)
      subst hs
      simp only [List.getElem_map, List.getElem_range]
      refine ⟨h1, fun j u hu => ?_⟩
      have hj : j < 6 := by
        have := (List.getElem?_eq_some_iff.1 hu).1
        simpa [ddC] using this
      have := h2 j hj
      rw [Go.Deep.add_add, add_at, ← Nat.add_assoc] at this
      rw [this]; exact hu
end

theorem Dd.Ok.later {w w' : World} {d : Dd} (h : d.Ok w) (hb : Below w.heap.size w w') : d.Ok w' := ⟨h.bt.later hb, h.o1, h.t1, h.s1, h.a1, h.b1⟩

theorem Dds.later {w w' : World} {v : Value} {B O : Nat} {l : List Dd} (h : Dds w v B O l) (hb : Below w.heap.size w w') : Dds w' v B O l := by
  obtain ⟨a, cap, h1, h2, h3, h4, hd⟩ := h
  exact ⟨a, cap, h1, h2, h3, h4, fun i hi => ⟨(hd i hi).1.later hb, fun j u hu => cell_later hb ((hd i hi).2 j u hu)⟩⟩

theorem Dds.cell {w : World} {v : Value} {B O : Nat} {l : List Dd} (h : Dds w v B O l) (i : Nat) (hi : i < l.length) :
    w.cell? ⟨B, O + i * 6, none⟩ = some (.int .i64 l[i].dO) ∧ w.cell? ⟨B, O + i * 6 + 1, none⟩ = some (.int .i64 l[i].tm) ∧ w.cell? ⟨B, O + i * 6 + 2, none⟩ = some (.int .u32 l[i].sub) ∧ w.cell? ⟨B, O + i * 6 + 3, none⟩ = some (.int .u32 l[i].addr) ∧ w.cell? ⟨B, O + i * 6 + 4, none⟩ = some (.int .i64 l[i].blk) ∧ w.cell? ⟨B, O + i * 6 + 5, none⟩ = some l[i].vb := by
  obtain ⟨a, cap, _, _, _, _, hd⟩ := h
  have := (hd i hi).2
  exact ⟨by have := this 0 _ rfl; rwa [Nat.add_zero] at this, this 1 _ rfl, this 2 _ rfl, this 3 _ rfl, this 4 _ rfl, this 5 _ rfl⟩

theorem Dds.ok {w : World} {v : Value} {B O : Nat} {l : List Dd} (h : Dds w v B O l) (i : Nat) (hi : i < l.length) : l[i].Ok w := by
  obtain ⟨a, cap, _, _, _, _, hd⟩ := h
  exact (hd i hi).1

def roomK (l : List Dd) : Bool := decide (l.length ≤ 150 ∧ ∀ d ∈ l, d.b.length ≤ 500)

theorem roomK_few {l : List Dd} (h : roomK l = true) : l.length ≤ 150 ∧ ∀ d ∈ l, d.b.length ≤ 500 := of_decide_eq_true h

set_option maxHeartbeats 1000000 in
theorem room11_ok (w : World) (v : Value) (B O : Nat) (l : List Dd) (h : Dds w v B O l) : Calls Tryz.prog 6 #[v] w fun e w' => e = .returned (.bool (roomK l)) ∧ w' = w := by
  have HD : Hid (Dds w v B O l) := h
  obtain ⟨a, cap, rfl, hl, hm, ha, _⟩ := h
  unfold maxLen at hm
  by_cases h300 : l.length ≤ 150
  · have h300I : ¬ (150 : Int) < (l.length : Int) := by omega
    go_enter Tryz.func6, Tryz.ntmps6
    go_wp2
    go_loopg [3] l.length (fun gk i wr => ∃ k : Nat, k + gk = l.length ∧ i = .int .i64 k ∧ (∀ d ∈ l.take k, d.b.length ≤ 500) ∧ w = wr)
    case atStart => exact ⟨0, by omega, rfl, by simp, rfl⟩
    case round =>
      obtain ⟨k, hk, rfl, hall, rfl⟩ := hrel
      by_cases hlt : k < l.length
      · have hltI : (k : Int) < (l.length : Int) := by omega
        rcases ha with rfl | hnil
        case inr => rw [hnil] at hlt; simp at hlt
        obtain ⟨_, _, _, _, _, c4⟩ := HD.out.cell k hlt
        obtain ⟨ba, bc, hvb, _, hbm, _⟩ := bts_src (HD.out.ok k hlt).bt
        rw [hvb] at c4
        unfold maxLen at hbm
        have HA : Hid (∀ d ∈ l.take k, d.b.length ≤ 500) := hall
        clear hall
        by_cases h1000 : l[k].b.length ≤ 500
        · have h1I : ¬ (500 : Int) < (l[k].b.length : Int) := by omega
          have HT : Hid (∀ d ∈ l.take (k + 1), d.b.length ≤ 500) := by
            intro d hd
            rw [List.take_succ_eq_append_getElem hlt, List.mem_append, List.mem_singleton] at hd
            rcases hd with hd | rfl
            · exact HA.out d hd
            · exact h1000
          clear hvb
          generalize l[k].b.length = q at *
          go_wp2
          go_roundg (l.length - (k + 1))
          case rel => exact ⟨k + 1, by omega, by go_num, HT.out, rfl⟩
          case measure => omega
        · have h1I : (500 : Int) < (l[k].b.length : Int) := by omega
          have HR : Hid (roomK l = false) := by
            show _ = _
            unfold roomK
            rw [decide_eq_false_iff_not]
            rintro ⟨_, h2⟩
            have := h2 l[k] (List.getElem_mem hlt)
            omega
          go_wp2
          go_ret
          exact ⟨ret_bool HR.out.symm, rfl⟩
      · have hke : k = l.length := by omega
        subst hke
        have hall' : ∀ d ∈ l, d.b.length ≤ 500 := by rwa [List.take_length] at hall
        have HR : Hid (roomK l = true) := by
          show _ = _
          unfold roomK
          exact decide_eq_true ⟨h300, hall'⟩
        clear hall
        go_wp2
        go_ret
        exact ⟨ret_bool HR.out.symm, rfl⟩
  · have h300I : (150 : Int) < (l.length : Int) := by omega
    have HR : Hid (roomK l = false) := by
      show _ = _
      unfold roomK
      rw [decide_eq_false_iff_not]
      rintro ⟨h1, _⟩
      omega
    go_enter Tryz.func6, Tryz.ntmps6
    go_wp2
    go_ret
    exact ⟨ret_bool HR.out.symm, rfl⟩

section
variable {H : Type} {enc : TypeId × Value → H} {w : World} {base b0' : Nat} {held : Bool} {r : Reach} {v : Value} {d : DataW H} {ps : List MemPlace}

set_option maxRecDepth 100000 in
theorem view2 (hv : Value.okWide Tryz.prog w r b0' 2 v) (h : DataW.Trod enc Tryz.prog w base (fun _ => true) held 2 v d ps) (_ : ∀ n ∈ d.weights Tryz.prog 2, n ≤ reachBytes) : IsI64 w v := by
  obtain ⟨x, rfl, rfl, rfl, wx⟩ := open_int Tryz.underlying2 hv h
  exact ⟨x, rfl, i64_of_wf wx⟩
end

end Go.Proofs.YtafkkehcacdodaaGreat
