/- Views out of readings: entries, spans, a question; the law's own story. -/
import Derived.Test.YtkkcpofaiocjpabTraRspans
import Derived.Deep.Slices
import Derived.Great.BuildSlice
set_option maxRecDepth 100000
namespace Go.Proofs.Ytkkcpofaiocjpab
open Go.ChangeShapes Go.WideShapes Go.ChangeAt Go.RowKit

theorem u32_bdT {x : Int} (h : (Lit.int .u32 x).wf = true) : 0 ≤ x ∧ x < 4294967296 := by
  simp [Lit.wf, IntKind.min, IntKind.max, IntKind.signed, IntKind.bits] at h
  omega

theorem i64_bdT {x : Int} (h : (Lit.int .i64 x).wf = true) : -9223372036854775808 ≤ x ∧ x ≤ 9223372036854775807 := by
  simp [Lit.wf, IntKind.min, IntKind.max, IntKind.signed, IntKind.bits] at h
  omega

theorem cells2_t : Try.prog.cellsOf 2 = 1 := by kernel_rfl
theorem cells3_t : Try.prog.cellsOf 3 = 1 := by kernel_rfl
theorem cells4_t : Try.prog.cellsOf 4 = 1 := by kernel_rfl
theorem cellsU_t : Try.prog.cellsOf 23 = 1 := by kernel_rfl
theorem cellsEn_t : Try.prog.cellsOf 56 = 5 := by kernel_rfl
theorem cellsSp_t : Try.prog.cellsOf 32 = 6 := by kernel_rfl
theorem cellsAsk : Try.prog.cellsOf 25 = 3 := by kernel_rfl

theorem list5t {α : Type} {l : List α} (h : l.length = 5) : ∃ c0 c1 c2 c3 c4, l = [c0, c1, c2, c3, c4] := by
  match l, h with
  | [c0, c1, c2, c3, c4], _ => exact ⟨c0, c1, c2, c3, c4, rfl⟩

theorem list6t {α : Type} {l : List α} (h : l.length = 6) : ∃ c0 c1 c2 c3 c4 c5, l = [c0, c1, c2, c3, c4, c5] := by
  match l, h with
  | [c0, c1, c2, c3, c4, c5], _ => exact ⟨c0, c1, c2, c3, c4, c5, rfl⟩

theorem list3t {α : Type} {l : List α} (h : l.length = 3) : ∃ c0 c1 c2, l = [c0, c1, c2] := by
  match l, h with
  | [c0, c1, c2], _ => exact ⟨c0, c1, c2, rfl⟩

theorem array3t {α : Type} {cs : Array α} (h : cs.size = 3) : ∃ c0 c1 c2, cs = #[c0, c1, c2] := by
  obtain ⟨l⟩ := cs
  match l, h with
  | [c0, c1, c2], _ => exact ⟨c0, c1, c2, rfl⟩

def enL (e : En) : List Value := [.int .i64 e.kind, .int .i64 e.time, .int .u32 e.sub, .int .u32 e.addr, .int .i64 e.block]

section
variable {H : Type} {enc : TypeId × Value → H} {w : World} {base b0 : Nat} {held : Bool} {r : Reach} {v : Value} {d : DataW H} {ps : List MemPlace}

set_option maxRecDepth 100000 in
theorem entry_of {n : Nat} {cs : List Value} {x : DataW H × List MemPlace} (hf : DataW.trod enc Try.prog w base (fun _ => true) held n 56 cs = some x) : ∃ q : En, cs = enL q ∧ q.Ok := by
  obtain ⟨xs, m, _, hx, hl, hlen, hfield⟩ := DataW.trod_struct Try.underlying56 hf
  rw [cellsEn_t] at hl
  obtain ⟨c0, c1, c2, c3, c4, rfl⟩ := list5t hl
  obtain ⟨y0, y1, y2, y3, y4, rfl⟩ := list5t hlen
  have t0 : DataW.trod enc Try.prog w base (fun _ => true) held m 3 [c0] = some y0 := by
    have := hfield 0 _ rfl
    simpa [cells3_t] using this
  have t1 : DataW.trod enc Try.prog w base (fun _ => true) held m 2 [c1] = some y1 := by
    have := hfield 1 _ rfl
    simpa [cells2_t] using this
  have t2 : DataW.trod enc Try.prog w base (fun _ => true) held m 23 [c2] = some y2 := by
    have := hfield 2 _ rfl
    simpa [cellsU_t] using this
  have t3 : DataW.trod enc Try.prog w base (fun _ => true) held m 23 [c3] = some y3 := by
    have := hfield 3 _ rfl
    simpa [cellsU_t] using this
  have t4 : DataW.trod enc Try.prog w base (fun _ => true) held m 3 [c4] = some y4 := by
    have := hfield 4 _ rfl
    simpa [cells3_t] using this
  obtain ⟨z0, e0, _, w0⟩ := DataW.trod_int Try.underlying3 t0
  obtain ⟨z1, e1, _, w1⟩ := DataW.trod_int Try.underlying2 t1
  obtain ⟨z2, e2, _, w2⟩ := DataW.trod_int Try.underlying23 t2
  obtain ⟨z3, e3, _, w3⟩ := DataW.trod_int Try.underlying23 t3
  obtain ⟨z4, e4, _, w4⟩ := DataW.trod_int Try.underlying3 t4
  simp at e0 e1 e2 e3 e4
  subst e0 e1 e2 e3 e4
  have q0 := i64_bdT w0
  have q1 := i64_bdT w1
  have q2 := u32_bdT w2
  have q3 := u32_bdT w3
  have q4 := i64_bdT w4
  exact ⟨⟨z0, z1, z2, z3, z4⟩, rfl, ⟨q0.1, q0.2, q1.1, q1.2, q2.1, q2.2, q3.1, q3.2, q4.1, q4.2⟩⟩

set_option maxRecDepth 100000 in
theorem span_of {n : Nat} {cs : List Value} {x : DataW H × List MemPlace} (hf : DataW.trod enc Try.prog w base (fun _ => true) held n 32 cs = some x) : ∃ q : Sp, cs = spC q ∧ q.Ok := by
  obtain ⟨xs, m, _, hx, hl, hlen, hfield⟩ := DataW.trod_struct Try.underlying32 hf
  rw [cellsSp_t] at hl
  obtain ⟨c0, c1, c2, c3, c4, c5, rfl⟩ := list6t hl
  obtain ⟨y0, y1, y2, y3, y4, y5, rfl⟩ := list6t hlen
  have t0 : DataW.trod enc Try.prog w base (fun _ => true) held m 23 [c0] = some y0 := by
    have := hfield 0 _ rfl
    simpa [cellsU_t] using this
  have t1 : DataW.trod enc Try.prog w base (fun _ => true) held m 23 [c1] = some y1 := by
    have := hfield 1 _ rfl
    simpa [cellsU_t] using this
  have t2 : DataW.trod enc Try.prog w base (fun _ => true) held m 3 [c2] = some y2 := by
    have := hfield 2 _ rfl
    simpa [cells3_t] using this
  have t3 : DataW.trod enc Try.prog w base (fun _ => true) held m 2 [c3] = some y3 := by
    have := hfield 3 _ rfl
    simpa [cells2_t] using this
  have t4 : DataW.trod enc Try.prog w base (fun _ => true) held m 2 [c4] = some y4 := by
    have := hfield 4 _ rfl
    simpa [cells2_t] using this
  have t5 : DataW.trod enc Try.prog w base (fun _ => true) held m 4 [c5] = some y5 := by
    have := hfield 5 _ rfl
    simpa [cells4_t] using this
  obtain ⟨z0, e0, _, w0⟩ := DataW.trod_int Try.underlying23 t0
  obtain ⟨z1, e1, _, w1⟩ := DataW.trod_int Try.underlying23 t1
  obtain ⟨z2, e2, _, w2⟩ := DataW.trod_int Try.underlying3 t2
  obtain ⟨z3, e3, _, w3⟩ := DataW.trod_int Try.underlying2 t3
  obtain ⟨z4, e4, _, w4⟩ := DataW.trod_int Try.underlying2 t4
  obtain ⟨z5, e5, _⟩ := DataW.trod_bool Try.underlying4 t5
  simp at e0 e1 e2 e3 e4 e5
  subst e0 e1 e2 e3 e4 e5
  have q0 := u32_bdT w0
  have q1 := u32_bdT w1
  have q2 := i64_bdT w2
  have q3 := i64_bdT w3
  have q4 := i64_bdT w4
  exact ⟨⟨z0, z1, z2, z3, z4, z5⟩, rfl, ⟨q0.1, q0.2, q1.1, q1.2, q2.1, q2.2, q3.1, q3.2, q4.1, q4.2⟩⟩

/-- A slice of structs, whatever they are. -/
theorem row_view {α : Type} [Inhabited α] {t e : TypeId} {k : Nat} {f : α → List Value} {ok : α → Prop} (hk : ∀ x, (f x).length = k) (h0k : 0 < k) (ht : Try.prog.underlying t = some (.slice e)) (hc : Try.prog.cellsOf e = k)
    (hof : ∀ {n : Nat} {cs : List Value} {x : DataW H × List MemPlace}, DataW.trod enc Try.prog w base (fun _ => true) held n e cs = some x → ∃ q : α, cs = f q ∧ ok q)
    (hv : Value.okWide Try.prog w r b0 t v) (h : DataW.Trod enc Try.prog w base (fun _ => true) held t v d ps) :
    ∃ (B O : Nat) (l : List α) (a : Option Addr) (cap : Nat), v = .slice a l.length cap ∧ l.length ≤ cap ∧ cap ≤ maxLen ∧ (a = some ⟨B, O, none⟩ ∨ l = []) ∧ (∀ x ∈ l, ok x) ∧ ∀ i s, l[i]? = some s → ∀ j u, (f s)[j]? = some u → w.cell? ⟨B, O + i * k + j, none⟩ = some u := by
  obtain ⟨a0, len0, cap0, rfl⟩ := okWide_slice ht hv
  obtain ⟨fuel, hf⟩ := h
  rcases Go.Deep.open_slice ht hf with ⟨hcs, _⟩ | ⟨a, len, cap, m, n, D, Pl, hcs, _, hl, hm, hmm, _, hrow⟩
  · simp [Value.cells] at hcs
    obtain ⟨rfl, rfl, rfl⟩ := hcs
    exact ⟨0, 0, [], none, 0, rfl, by simp, by decide, .inr rfl, fun x hx => (by cases hx), fun i s hs => by simp at hs⟩
  · simp [Value.cells] at hcs
    obtain ⟨rfl, rfl, rfl⟩ := hcs
    simp only [if_true] at hmm
    subst hmm
    rw [hc] at hrow
    obtain ⟨b, off, spot⟩ := a
    have hq : ∀ i, i < len0 → ∃ q : α, ok q ∧ ∀ j, j < k → w.cell? (((⟨b, off, spot⟩ : Addr).add (i * k)).add j) = (f q)[j]? := by
      intro i hi
      obtain ⟨cs', h1, h2⟩ := hrow i (by omega)
      obtain ⟨q, rfl, hq⟩ := hof h2
      unfold World.cells? at h1
      split at h1
      case isFalse => cases h1
      exact ⟨q, hq, fun j hj => mapM_some_get h1 j j (by simp [hj])⟩
    have hspot : 0 < len0 → spot = none := fun h0 => by
      obtain ⟨q, _, hget⟩ := hq 0 h0
      have h0' := hget 0 h0k
      rw [List.getElem?_eq_getElem (by rw [hk]; exact h0k)] at h0'
      simpa [Addr.add] using World.cell?_spot h0'
    obtain ⟨fn, hf'⟩ := Go.Deep.choose_lt (α := α) (n := len0) (p := fun i q => ok q ∧ ∀ j, j < k → w.cell? (((⟨b, off, spot⟩ : Addr).add (i * k)).add j) = (f q)[j]?) hq
    refine ⟨b, off, (List.range len0).map fn, _, _, by simp; rfl, by simpa using hl, hm, ?_, ?_, ?_⟩
    · by_cases h0 : len0 = 0
      · right; subst h0; simp
      · left; rw [hspot (by omega)]
    · intro x hx
      simp at hx
      obtain ⟨i, hi, rfl⟩ := hx
      exact (hf' i hi).1
    · intro i s hs j u hu
      obtain ⟨hi, e1⟩ := List.getElem?_eq_some_iff.1 hs
      simp at hi
      obtain ⟨h1, h2⟩ := hf' i hi
      have hsp := hspot (by omega)
      subst hsp
      simp only [List.getElem_map, List.getElem_range] at e1
      have hj : j < k := by
        have := (List.getElem?_eq_some_iff.1 hu).1
        rwa [hk] at this
      have := h2 j hj
      rw [Go.Deep.add_add, add_at, ← Nat.add_assoc, e1] at this
      rw [this]; exact hu

def IsEns (w : World) (v : Value) : Prop := ∃ B O l, Ens w v B O l ∧ ∀ e ∈ l, e.Ok
def IsSps (w : World) (v : Value) : Prop := ∃ B O l, Sps w v B O l ∧ OkAll l

theorem viewEns (hv : Value.okWide Try.prog w r b0 37 v) (h : DataW.Trod enc Try.prog w base (fun _ => true) held 37 v d ps) (_ : ∀ n ∈ d.weights Try.prog 37, n ≤ reachBytes) : IsEns w v := by
  haveI : Inhabited En := ⟨En.zero⟩
  obtain ⟨B, O, l, a, cap, h1, h2, h3, h4, h5, h6⟩ := row_view (f := enL) (ok := En.Ok) (k := 5) (fun _ => rfl) (by decide) Try.underlying37 cellsEn_t (fun hf => entry_of hf) hv h
  exact ⟨B, O, l, ⟨a, cap, h1, h2, h3, h4, fun i s hs => ⟨h6 i s hs 0 _ rfl, h6 i s hs 1 _ rfl, h6 i s hs 2 _ rfl, h6 i s hs 3 _ rfl, h6 i s hs 4 _ rfl⟩⟩, h5⟩

theorem viewSps (hv : Value.okWide Try.prog w r b0 22 v) (h : DataW.Trod enc Try.prog w base (fun _ => true) held 22 v d ps) (_ : ∀ n ∈ d.weights Try.prog 22, n ≤ reachBytes) : IsSps w v := by
  obtain ⟨B, O, l, a, cap, h1, h2, h3, h4, h5, h6⟩ := row_view (f := spC) (ok := Sp.Ok) (k := 6) (fun _ => rfl) (by decide) Try.underlying22 cellsSp_t (fun hf => span_of hf) hv h
  exact ⟨B, O, l, ⟨a, cap, h1, h2, h3, h4, fun i s hs => ⟨h6 i s hs 0 _ rfl, h6 i s hs 1 _ rfl, h6 i s hs 2 _ rfl, h6 i s hs 3 _ rfl, h6 i s hs 4 _ rfl, h6 i s hs 5 _ rfl⟩⟩, h5⟩

@[reducible] def askV (a k t : Int) : Value := .agg #[.int .u32 a, .int .i64 k, .int .i64 t]

def IsAsk (_ : World) (v : Value) : Prop := ∃ a k t, v = askV a k t ∧ OkP (a, k) ∧ -9223372036854775808 ≤ t ∧ t ≤ 9223372036854775807

set_option maxHeartbeats 1000000 in
theorem viewAsk (hv : Value.okWide Try.prog w r b0 25 v) (h : DataW.Trod enc Try.prog w base (fun _ => true) held 25 v d ps) (_ : ∀ n ∈ d.weights Try.prog 25, n ≤ reachBytes) : IsAsk w v := by
  obtain ⟨cs, rfl, hsz⟩ := okWide_struct Try.underlying25 hv
  obtain ⟨c0, c1, c2, rfl⟩ := array3t (hsz.trans cellsAsk)
  obtain ⟨fuel, hf⟩ := h
  obtain ⟨xs, n, _, hx, hl, hlen, hfield⟩ := DataW.trod_struct Try.underlying25 hf
  obtain ⟨y0, y1, y2, rfl⟩ := list3t hlen
  have t0 : DataW.trod enc Try.prog w base (fun _ => true) held n 23 [c0] = some y0 := by
    have := hfield 0 _ rfl
    simpa [Value.cells, cellsU_t] using this
  have t1 : DataW.trod enc Try.prog w base (fun _ => true) held n 3 [c1] = some y1 := by
    have := hfield 1 _ rfl
    simpa [Value.cells, cells3_t] using this
  have t2 : DataW.trod enc Try.prog w base (fun _ => true) held n 2 [c2] = some y2 := by
    have := hfield 2 _ rfl
    simpa [Value.cells, cells2_t] using this
  obtain ⟨z0, e0, _, w0⟩ := DataW.trod_int Try.underlying23 t0
  obtain ⟨z1, e1, _, w1⟩ := DataW.trod_int Try.underlying3 t1
  obtain ⟨z2, e2, _, w2⟩ := DataW.trod_int Try.underlying2 t2
  simp at e0 e1 e2
  subst e0 e1 e2
  have q0 := u32_bdT w0
  have q1 := i64_bdT w1
  have q2 := i64_bdT w2
  exact ⟨z0, z1, z2, rfl, ⟨q0.1, q0.2, q1.1, q1.2⟩, q2.1, q2.2⟩

end

def storyL : List En := [⟨2, 5, 7, 9, 0⟩, ⟨3, 9, 0, 9, 0⟩, ⟨2, 20, 8, 9, 0⟩]

theorem story_any (w : World) : Calls Try.prog 10 #[] w fun e w' => ∃ v B, e = .returned v ∧ Ens w' v B 0 storyL ∧ Below w.heap.size w w' := by
  go_enter Try.func10, Try.ntmps10
  go_wp2
  go_ret
  refine ⟨_, w.heap.size, rfl, ⟨_, _, rfl, by decide, by decide, .inl rfl, fun i e hi => ?_⟩, below_alloc _ _⟩
  have hcl := (blk_new w #[.int .i64 2, .int .i64 5, .int .u32 7, .int .u32 9, .int .i64 0, .int .i64 3, .int .i64 9, .int .u32 0, .int .u32 9, .int .i64 0, .int .i64 2, .int .i64 20, .int .u32 8, .int .u32 9, .int .i64 0] 56).cell
  have hil := (List.getElem?_eq_some_iff.1 hi).1
  have : i = 0 ∨ i = 1 ∨ i = 2 := by simp [storyL] at hil; omega
  rcases this with rfl | rfl | rfl <;> simp [storyL] at hi <;> subst hi <;> exact ⟨hcl _, hcl _, hcl _, hcl _, hcl _⟩

theorem story_ok : ∀ e ∈ storyL, e.Ok := by
  intro e he
  simp [storyL] at he
  rcases he with rfl | rfl | rfl <;> constructor <;> decide

theorem story_spans : spans storyL = [⟨7, 9, 0, 5, 9, false⟩, ⟨8, 9, 0, 20, 0, true⟩] := by decide

set_option maxHeartbeats 1000000 in
theorem awake10_any (w : World) : Calls Try.prog 4 #[] w fun e w' => e = .returned (.bool true) ∧ Below w.heap.size w w' := by
  go_enter Try.func4, Try.ntmps4
  go_wp2_with fail
  refine (story_any _).mono ?_
  rintro e w2 ⟨v, B, rfl, hE, hb2⟩
  have HS := spans_ok v B 0 storyL w2 hE story_ok (by decide)
  rw [story_spans] at HS
  clear hE
  go_wp2_with fail
  refine HS.mono ?_
  rintro e w3 ⟨r, rfl, hR, hb3⟩
  obtain ⟨g, cp, rfl, hg1, hg2, hg3⟩ := ownsRow_slice hR (by decide)
  obtain ⟨p0, p1, p2, p3, p4, p5⟩ := spRow_at hR rfl (i := 0) (s := ⟨7, 9, 0, 5, 9, false⟩) rfl
  obtain ⟨q0, q1, q2, q3, q4, q5⟩ := spRow_at hR rfl (i := 1) (s := ⟨8, 9, 0, 20, 0, true⟩) rfl
  simp at p0 p1 p2 p3 p4 p5 q0 q1 q2 q3 q4 q5
  have HB : Hid (Below w.heap.size w w3) := below_trans hb2 hb3
  clear hR HS hb2 hb3
  go_wp2
  go_ret
  exact ⟨rfl, HB.out⟩

end Go.Proofs.Ytkkcpofaiocjpab
