/- What a disk is, in numbers; how it lies in memory. -/
import Derived.Test.YtafkkehcacdodaaGreatSecMem
set_option maxRecDepth 100000
namespace Go.Proofs.YtafkkehcacdodaaGreat
open Go.RowKit

abbrev bytesV (l : List Int) : List Value := l.map (Value.int .u8)

/-- A disk in numbers. -/
structure St where
  n : Nat
  sure : List Int
  now : List Int
  since : List (Nat × List Int)
  outs : List Int
  ops : Nat

/-- What Writes make of bytes. -/
def lays (l : List Int) (ws : List (Nat × List Int)) : List Int := ws.foldl (fun l x => splice l (x.1 * 64) x.2) l

structure St.Ok (s : St) : Prop where
  n1 : 1 ≤ s.n
  n2 : s.n ≤ 4096
  sl : s.sure.length = s.n * 64
  nl : s.now.length = s.n * 64
  sb : isBytes s.sure
  nb : isBytes s.now
  ob : isBytes s.outs
  wr : ∀ x ∈ s.since, x.1 < s.n ∧ x.2.length = 64 ∧ isBytes x.2
  eq : s.now = lays s.sure s.since

def St.out (s : St) : Int := s.outs.headD 0
def St.take (s : St) : St := { s with outs := s.outs.tail, ops := s.ops + 1 }
def doneB (c : Int) : Bool := decide (c % 3 ≠ 1)
def errC (c : Int) : Int := if c % 3 = 0 then 0 else 8
def St.wrote (s : St) (k : Nat) (l : List Int) : St := { s with now := splice s.now (k * 64) l, since := s.since ++ [(k, l)] }
def St.write (s : St) (k : Nat) (l : List Int) : St := if doneB s.out then s.take.wrote k l else s.take
def St.settled (s : St) : St := { s with sure := s.now, since := [] }
def St.sync (s : St) : St := if doneB s.out then s.take.settled else s.take
def St.add (s : St) (l : List Int) : St := { s with outs := s.outs ++ l }
def leftN (ch : List Int) (i : Nat) : Nat := if ch.getD i 0 % 3 = 0 then 64 else if ch.getD i 0 % 3 = 1 then 0 else min (ch.getD i 0 / 3).toNat 64
def torn (ch l : List Int) (ws : List (Nat × List Int)) : Nat → List Int
  | 0 => l
  | k + 1 => splice (torn ch l ws k) ((ws.getD k (0, [])).1 * 64) ((ws.getD k (0, [])).2.take (leftN ch k))
def St.crash (s : St) (ch : List Int) : St := ⟨s.n, torn ch s.sure s.since s.since.length, torn ch s.sure s.since s.since.length, [], [], 0⟩
def zeros (n : Nat) : List Int := List.replicate n 0
def St.new (n : Nat) : St := ⟨n, zeros (n * 64), zeros (n * 64), [], [], 0⟩

theorem isBytes_nil : isBytes [] := fun _ h => by cases h

theorem isBytes_splice {l b : List Int} {o : Nat} (h : isBytes l) (hb : isBytes b) : isBytes (splice l o b) := by
  intro z hz
  simp only [splice, List.mem_append] at hz
  rcases hz with (hz | hz) | hz
  · exact h z (List.mem_of_mem_take hz)
  · exact hb z hz
  · exact h z (List.mem_of_mem_drop hz)

theorem lays_snoc (l : List Int) (ws : List (Nat × List Int)) (x : Nat × List Int) : lays l (ws ++ [x]) = splice (lays l ws) (x.1 * 64) x.2 := by simp [lays]

theorem St.out_byte {s : St} (h : isBytes s.outs) : 0 ≤ s.out ∧ s.out < 256 := by
  unfold St.out
  cases hs : s.outs with
  | nil => simp
  | cons c l => exact h c (by simp [hs])

theorem St.Ok.take {s : St} (h : s.Ok) : s.take.Ok :=
  ⟨h.n1, h.n2, h.sl, h.nl, h.sb, h.nb, fun z hz => h.ob z (List.mem_of_mem_tail hz), h.wr, h.eq⟩

theorem St.Ok.add {s : St} (h : s.Ok) {l : List Int} (hl : isBytes l) : (s.add l).Ok :=
  ⟨h.n1, h.n2, h.sl, h.nl, h.sb, h.nb, fun z hz => by
    simp only [St.add, List.mem_append] at hz
    rcases hz with hz | hz
    · exact h.ob z hz
    · exact hl z hz, h.wr, h.eq⟩

theorem St.Ok.wrote {s : St} (h : s.Ok) {k : Nat} {l : List Int} (hk : k < s.n) (hl : l.length = 64) (hb : isBytes l) : (s.wrote k l).Ok := by
  refine ⟨h.n1, h.n2, h.sl, ?_, h.sb, isBytes_splice h.nb hb, h.ob, ?_, ?_⟩
  · show (splice _ _ _).length = _
    rw [splice_length _ _ _ (by rw [h.nl, hl]; omega)]; exact h.nl
  · intro x hx
    simp only [St.wrote, List.mem_append, List.mem_singleton] at hx
    rcases hx with hx | rfl
    · exact h.wr x hx
    · exact ⟨hk, hl, hb⟩
  · show splice s.now _ _ = lays s.sure (s.since ++ [(k, l)])
    rw [lays_snoc, ← h.eq]

theorem St.Ok.settled {s : St} (h : s.Ok) : s.settled.Ok :=
  ⟨h.n1, h.n2, h.nl, h.nl, h.nb, h.nb, h.ob, (fun x hx => by cases hx), rfl⟩

theorem leftN_le (ch : List Int) (i : Nat) : leftN ch i ≤ 64 := by
  unfold leftN; split
  · exact Nat.le_refl _
  · split
    · omega
    · exact Nat.min_le_right _ _

theorem wr_at {s : St} (h : s.Ok) (k : Nat) (hk : k < s.since.length) : (s.since.getD k (0, [])).1 < s.n ∧ (s.since.getD k (0, [])).2.length = 64 ∧ isBytes (s.since.getD k (0, [])).2 := by
  rw [List.getD_eq_getElem?_getD, List.getElem?_eq_getElem hk]
  exact h.wr _ (List.getElem_mem hk)

theorem torn_len {s : St} (h : s.Ok) (ch : List Int) : ∀ k, k ≤ s.since.length → (torn ch s.sure s.since k).length = s.n * 64 ∧ isBytes (torn ch s.sure s.since k) := by
  intro k
  induction k with
  | zero => intro _; exact ⟨h.sl, h.sb⟩
  | succ k ih =>
    intro hk
    obtain ⟨h1, h2⟩ := ih (by omega)
    obtain ⟨w1, w2, w3⟩ := wr_at h k (by omega)
    have hle := leftN_le ch k
    refine ⟨?_, isBytes_splice h2 (isBytes_take w3 _)⟩
    show (splice _ _ _).length = _
    rw [splice_length _ _ _ (by rw [h1, List.length_take, w2]; omega)]; exact h1

theorem lays_len {s : St} (h : s.Ok) : ∀ k, k ≤ s.since.length → (lays s.sure (s.since.take k)).length = s.n * 64 := by
  intro k
  induction k with
  | zero => intro _; simpa [lays] using h.sl
  | succ k ih =>
    intro hk
    have h1 := ih (by omega)
    obtain ⟨w1, w2, w3⟩ := h.wr _ (List.getElem_mem (show k < s.since.length by omega))
    rw [List.take_succ_eq_append_getElem (by omega), lays_snoc, splice_length _ _ _ (by rw [h1, w2]; omega)]
    exact h1

theorem St.Ok.crash {s : St} (h : s.Ok) (ch : List Int) : (s.crash ch).Ok := by
  obtain ⟨h1, h2⟩ := torn_len h ch s.since.length (Nat.le_refl _)
  exact ⟨h.n1, h.n2, h1, h1, h2, h2, isBytes_nil, (fun x hx => by cases hx), rfl⟩

theorem isBytes_zeros (n : Nat) : isBytes (zeros n) := fun z hz => by
  rw [List.eq_of_mem_replicate hz]; decide

theorem St.ok_new {n : Nat} (h1 : 1 ≤ n) (h2 : n ≤ 4096) : (St.new n).Ok :=
  ⟨h1, h2, by simp [St.new, zeros], by simp [St.new, zeros], isBytes_zeros _, isBytes_zeros _, isBytes_nil, (fun x hx => by cases hx), rfl⟩

/-- The cells of Writes: a place and 64 bytes each. -/
def wcell (x : Nat × List Int) : List Value := .int .i64 x.1 :: bytesV x.2
def wcells (ws : List (Nat × List Int)) : List Value := ws.flatMap wcell

theorem wcells_snoc (ws : List (Nat × List Int)) (x : Nat × List Int) : wcells (ws ++ [x]) = wcells ws ++ wcell x := by simp [wcells]

theorem wcells_len {ws : List (Nat × List Int)} (h : ∀ x ∈ ws, x.2.length = 64) : (wcells ws).length = ws.length * 65 := by
  induction ws with
  | nil => rfl
  | cons x r ih =>
    have := ih (fun y hy => h y (by simp [hy]))
    have h1 := h x (by simp)
    simp only [wcells, List.flatMap_cons, List.length_append, List.length_cons] at this ⊢
    rw [this]
    simp [wcell, h1]; omega

theorem wcells_at {ws : List (Nat × List Int)} (h : ∀ x ∈ ws, x.2.length = 64) (k : Nat) (hk : k < ws.length) : ((wcells ws).drop (k * 65)).take 65 = wcell (ws.getD k (0, [])) := by
  induction ws generalizing k with
  | nil => simp at hk
  | cons x r ih =>
    have h1 := h x (by simp)
    have hl : (wcell x).length = 65 := by simp [wcell, h1]
    have e : wcells (x :: r) = wcell x ++ wcells r := by simp [wcells]
    rw [e]
    cases k with
    | zero => simp [← hl]
    | succ k =>
      have := ih (fun y hy => h y (by simp [hy])) k (by simpa using hk)
      rw [show (k + 1) * 65 = (wcell x).length + k * 65 by omega, List.drop_append, List.drop_of_length_le (by omega)]
      simpa using this

theorem ones_bytes (l : List Int) : ∀ v ∈ bytesV l, v.oneCell' = true := ones_cell l

/-- Which block is whose. -/
structure Step (tag tag' : Nat → Nat) (base o : Nat) (w w' : World) : Prop where
  below : Below base w w'
  tags : ∀ k, k < w.heap.size → tag' k = tag k
  kept : ∀ k, k < w.heap.size → tag k / 16 ≠ o → w'.heap[k]? = w.heap[k]?

section
variable {tag tag' tag'' : Nat → Nat} {base o : Nat} {w w' w'' : World}

theorem Step.refl (tag : Nat → Nat) (base o : Nat) (w : World) : Step tag tag base o w w := ⟨Below.refl _ _, fun _ _ => rfl, fun _ _ _ => rfl⟩

theorem Step.trans (h : Step tag tag' base o w w') (k : Step tag' tag'' base o w' w'') : Step tag tag'' base o w w'' := by
  have hs := h.below.size
  exact ⟨h.below.trans k.below, fun i hi => (k.tags i (by omega)).trans (h.tags i hi), fun i hi hne => (k.kept i (by omega) (by rw [h.tags i hi]; exact hne)).trans (h.kept i hi hne)⟩

theorem step_below (tag : Nat → Nat) (base o : Nat) (hb : base ≤ w.heap.size) (h : Below w.heap.size w w') : Step tag tag base o w w' :=
  ⟨h.mono hb, fun _ _ => rfl, fun k hk _ => h.block k hk⟩

theorem step_drew (tag : Nat → Nat) (base o : Nat) (w : World) (n : Nat) : Step tag tag base o w (w.drewN n) := ⟨⟨rfl, rfl, rfl, Nat.le_refl _, fun _ _ => rfl⟩, fun _ _ => rfl, fun _ _ _ => rfl⟩

theorem Step.alloc (h : Step tag tag' base o w w') (hb : base ≤ w'.heap.size) (ob : Obj) : Step tag tag' base o w (w'.alloc ob) :=
  h.trans (step_below tag' base o hb ((Below.refl _ _).alloc (Nat.le_refl _) _))

theorem step_set (tag : Nat → Nat) (base o : Nat) (w : World) {g : Nat} (hg : base ≤ g) (ht : tag g / 16 = o) (j : Nat) (v : Value) : Step tag tag base o w (w.setCell ⟨g, j, none⟩ v) :=
  ⟨(Below.refl _ _).setCell hg v, fun _ _ => rfl, fun k hk hne => heap_setCell_other w ⟨g, j, none⟩ k v (fun e => hne (by rw [e]; exact ht))⟩

theorem Step.set (h : Step tag tag' base o w w') {g : Nat} (hg : base ≤ g) (ht : tag' g / 16 = o) (j : Nat) (v : Value) : Step tag tag' base o w (w'.setCell ⟨g, j, none⟩ v) :=
  h.trans (step_set tag' base o w' hg ht j v)

theorem below_setCells {base : Nat} {w : World} (g : Nat) (hg : base ≤ g) : ∀ (vs : List Value) (j : Nat), Below base w (w.setCells g j vs) := by
  intro vs j
  obtain ⟨a, b, c⟩ := same_setCells g vs j w
  exact ⟨a, b, c, by rw [size_setCells]; exact Nat.le_refl _, fun k hk => heap_setCells_other k g (by omega) vs j w⟩

theorem Step.sets (h : Step tag tag' base o w w') {g : Nat} (hg : base ≤ g) (ht : tag' g / 16 = o) (j : Nat) (vs : List Value) : Step tag tag' base o w (w'.setCells g j vs) :=
  h.trans ⟨below_setCells g hg vs j, fun _ _ => rfl, fun k hk hne => heap_setCells_other k g (fun e => hne (by rw [e]; exact ht)) vs j w'⟩

theorem Step.drewN (h : Step tag tag' base o w w') (n : Nat) : Step tag tag' base o w (w'.drewN n) := h.trans (step_drew tag' base o w' n)

/-- A tag for the block of a value. -/
def retag (tag : Nat → Nat) (v : Value) (T : Nat) : Nat → Nat := fun k => if v.ownBlock = some k then T else tag k

/-- Behind an append onto what is o's own, in field T: the new value's block is tagged. -/
theorem step_grown {T : Nat} {v v' : Value} (hg : w.grownBy w' v.ownBlock) (hat : v'.ownBlock = v.ownBlock ∨ v'.ownBlock = some w.heap.size) (hv : ∀ g, v.ownBlock = some g → tag g = T ∧ base ≤ g) (hT : T / 16 = o) (hb : base ≤ w.heap.size) :
    Step tag (retag tag v' T) base o w w' ∧ (∀ g, v'.ownBlock = some g → retag tag v' T g = T ∧ base ≤ g) := by
  refine ⟨⟨(Below.refl _ _).grown hg hb (fun k hk => (hv k hk).2), ?_, ?_⟩, ?_⟩
  · intro k hk
    unfold retag
    split
    · rename_i h
      rcases hat with e | e
      · rw [e] at h; exact (hv k h).1.symm
      · rw [e] at h; simp at h; omega
    · rfl
  · intro k hk hne
    refine hg.block k hk (fun e => ?_)
    exact hne (by rw [(hv k e.symm).1]; exact hT)
  · intro g hg'
    refine ⟨by simp [retag, hg'], ?_⟩
    rcases hat with e | e
    · rw [e] at hg'; exact (hv g hg').2
    · rw [e] at hg'; simp at hg'; omega

end

/-- Where a disk of the program lies. -/
structure PL where
  D : Nat
  Q : Nat
  C : Nat
  L : Nat
  cC : Nat
  cL : Nat
  wv : Value
  uv : Value

/-- A disk of the program, in memory that is o's. -/
structure PD (w : World) (tag : Nat → Nat) (base o : Nat) (s : St) (p : PL) : Prop where
  bD : Blk w p.D [.pointer (some ⟨p.Q, 0, none⟩), .func (.func 67) #[.pointer (some ⟨p.Q, 0, none⟩)] #[], .slice (some ⟨p.C, 0, none⟩) s.n p.cC, .slice (some ⟨p.L, 0, none⟩) s.n p.cL, p.uv]
  bQ : Blk w p.Q [p.wv, .int .i64 s.ops]
  rC : Row w 64 p.C p.cC s.n (bytesV s.sure)
  rL : Row w 64 p.L p.cL s.n (bytesV s.now)
  wW : Win w 1 p.wv s.outs.length (bytesV s.outs)
  wU : Win w 65 p.uv s.since.length (wcells s.since)
  tD : tag p.D = 16 * o + 1 ∧ base ≤ p.D
  tQ : tag p.Q = 16 * o + 2 ∧ base ≤ p.Q
  tC : tag p.C = 16 * o + 3 ∧ base ≤ p.C
  tL : tag p.L = 16 * o + 4 ∧ base ≤ p.L
  tW : ∀ g, p.wv.ownBlock = some g → tag g = 16 * o + 5 ∧ base ≤ g
  tU : ∀ g, p.uv.ownBlock = some g → tag g = 16 * o + 6 ∧ base ≤ g
  ok : s.Ok

theorem PD.keep {w w' : World} {tag tag' : Nat → Nat} {base o : Nat} {s : St} {p : PL} (h : PD w tag base o s p) (hk : ∀ k, k < w.heap.size → tag k / 16 = o → w'.heap[k]? = w.heap[k]?) (ht : ∀ k, k < w.heap.size → tag' k = tag k) : PD w' tag' base o s p :=
  ⟨h.bD.same (hk _ h.bD.lt (by have := h.tD.1; omega)), h.bQ.same (hk _ h.bQ.lt (by have := h.tQ.1; omega)), h.rC.same (hk _ h.rC.lt (by have := h.tC.1; omega)), h.rL.same (hk _ h.rL.lt (by have := h.tL.1; omega)),
    h.wW.same (fun g hg => hk g (h.wW.lt g hg) (by have := (h.tW g hg).1; omega)), h.wU.same (fun g hg => hk g (h.wU.lt g hg) (by have := (h.tU g hg).1; omega)),
    ⟨by rw [ht _ h.bD.lt]; exact h.tD.1, h.tD.2⟩, ⟨by rw [ht _ h.bQ.lt]; exact h.tQ.1, h.tQ.2⟩, ⟨by rw [ht _ h.rC.lt]; exact h.tC.1, h.tC.2⟩, ⟨by rw [ht _ h.rL.lt]; exact h.tL.1, h.tL.2⟩,
    fun g hg => ⟨by rw [ht _ (h.wW.lt g hg)]; exact (h.tW g hg).1, (h.tW g hg).2⟩, fun g hg => ⟨by rw [ht _ (h.wU.lt g hg)]; exact (h.tU g hg).1, (h.tU g hg).2⟩, h.ok⟩

theorem PD.later {w w' : World} {tag : Nat → Nat} {base o : Nat} {s : St} {p : PL} (h : PD w tag base o s p) (hb : Below w.heap.size w w') : PD w' tag base o s p :=
  h.keep (fun k hk _ => hb.block k hk) (fun _ _ => rfl)

theorem PD.other {w w' : World} {tag tag' : Nat → Nat} {base o o' : Nat} {s : St} {p : PL} (h : PD w tag base o s p) (hb : Step tag tag' base o' w w') (ho : o ≠ o') : PD w' tag' base o s p :=
  h.keep (fun k hk ht => hb.kept k hk (by rw [ht]; exact ho)) hb.tags

/-- Where a disk of the document lies; of each Write since, its bytes. -/
structure ML where
  M : Nat
  S : Nat
  N : Nat
  cS : Nat
  cN : Nat
  sv : Value
  ov : Value
  bs : List (Nat × Nat)

/-- The cells of the document's Writes: a place and a slice each. -/
def mcell (x : (Nat × List Int) × (Nat × Nat)) : List Value := [.int .i64 x.1.1, .slice (some ⟨x.2.1, 0, none⟩) 64 x.2.2]
def mcells (ws : List (Nat × List Int)) (bs : List (Nat × Nat)) : List Value := (ws.zip bs).flatMap mcell

theorem mcells_snoc (ws : List (Nat × List Int)) (bs : List (Nat × Nat)) (h : ws.length = bs.length) (x : Nat × List Int) (b : Nat × Nat) : mcells (ws ++ [x]) (bs ++ [b]) = mcells ws bs ++ mcell (x, b) := by
  simp [mcells, List.zip_append h]

theorem mcells_len (ws : List (Nat × List Int)) (bs : List (Nat × Nat)) (h : ws.length = bs.length) : (mcells ws bs).length = ws.length * 2 := by
  induction ws generalizing bs with
  | nil => simp [mcells]
  | cons x r ih =>
    cases bs with
    | nil => simp at h
    | cons b bs =>
      have := ih bs (by simpa using h)
      simp only [mcells, List.zip_cons_cons, List.flatMap_cons, List.length_append, List.length_cons] at this ⊢
      rw [this]; simp [mcell]; omega

theorem mcells_at (ws : List (Nat × List Int)) (bs : List (Nat × Nat)) (h : ws.length = bs.length) (k : Nat) (hk : k < ws.length) :
    (mcells ws bs)[2 * k]? = some (.int .i64 (ws.getD k (0, [])).1) ∧ (mcells ws bs)[2 * k + 1]? = some (.slice (some ⟨(bs.getD k (0, 0)).1, 0, none⟩) 64 (bs.getD k (0, 0)).2) := by
  induction ws generalizing bs k with
  | nil => simp at hk
  | cons x r ih =>
    cases bs with
    | nil => simp at h
    | cons b bs =>
      have e : mcells (x :: r) (b :: bs) = mcell (x, b) ++ mcells r bs := by simp [mcells]
      rw [e]
      cases k with
      | zero => simp [mcell]
      | succ k =>
        have := ih bs (by simpa using h) k (by simpa using hk)
        rw [show 2 * (k + 1) = 2 * k + 2 by omega, List.getElem?_append_right (by simp [mcell]), List.getElem?_append_right (by simp [mcell])]
        rw [show 2 * k + 2 - (mcell (x, b)).length = 2 * k by simp [mcell], show 2 * k + 2 + 1 - (mcell (x, b)).length = 2 * k + 1 by simp [mcell]]
        simpa using this

/-- A disk of the document, in memory that is o's. -/
structure MD (w : World) (tag : Nat → Nat) (base o : Nat) (s : St) (p : ML) : Prop where
  bM : Blk w p.M [.int .i64 s.n, .slice (some ⟨p.S, 0, none⟩) (s.n * 64) p.cS, .slice (some ⟨p.N, 0, none⟩) (s.n * 64) p.cN, p.sv, p.ov, .int .i64 s.ops]
  rS : Row w 1 p.S p.cS (s.n * 64) (bytesV s.sure)
  rN : Row w 1 p.N p.cN (s.n * 64) (bytesV s.now)
  wS : Win w 2 p.sv s.since.length (mcells s.since p.bs)
  wO : Win w 1 p.ov s.outs.length (bytesV s.outs)
  lb : s.since.length = p.bs.length
  bB : ∀ k, k < s.since.length → Row w 1 (p.bs.getD k (0, 0)).1 (p.bs.getD k (0, 0)).2 64 (bytesV (s.since.getD k (0, [])).2)
  tM : tag p.M = 16 * o + 1 ∧ base ≤ p.M
  tS : tag p.S = 16 * o + 2 ∧ base ≤ p.S
  tN : tag p.N = 16 * o + 3 ∧ base ≤ p.N
  tV : ∀ g, p.sv.ownBlock = some g → tag g = 16 * o + 4 ∧ base ≤ g
  tO : ∀ g, p.ov.ownBlock = some g → tag g = 16 * o + 5 ∧ base ≤ g
  tB : ∀ k, k < s.since.length → tag (p.bs.getD k (0, 0)).1 = 16 * o + 6 ∧ base ≤ (p.bs.getD k (0, 0)).1
  ok : s.Ok

theorem MD.keep {w w' : World} {tag tag' : Nat → Nat} {base o : Nat} {s : St} {p : ML} (h : MD w tag base o s p) (hk : ∀ k, k < w.heap.size → tag k / 16 = o → w'.heap[k]? = w.heap[k]?) (ht : ∀ k, k < w.heap.size → tag' k = tag k) : MD w' tag' base o s p :=
  ⟨h.bM.same (hk _ h.bM.lt (by have := h.tM.1; omega)), h.rS.same (hk _ h.rS.lt (by have := h.tS.1; omega)), h.rN.same (hk _ h.rN.lt (by have := h.tN.1; omega)),
    h.wS.same (fun g hg => hk g (h.wS.lt g hg) (by have := (h.tV g hg).1; omega)), h.wO.same (fun g hg => hk g (h.wO.lt g hg) (by have := (h.tO g hg).1; omega)), h.lb,
    fun k hk' => (h.bB k hk').same (hk _ (h.bB k hk').lt (by have := (h.tB k hk').1; omega)),
    ⟨by rw [ht _ h.bM.lt]; exact h.tM.1, h.tM.2⟩, ⟨by rw [ht _ h.rS.lt]; exact h.tS.1, h.tS.2⟩, ⟨by rw [ht _ h.rN.lt]; exact h.tN.1, h.tN.2⟩,
    fun g hg => ⟨by rw [ht _ (h.wS.lt g hg)]; exact (h.tV g hg).1, (h.tV g hg).2⟩, fun g hg => ⟨by rw [ht _ (h.wO.lt g hg)]; exact (h.tO g hg).1, (h.tO g hg).2⟩,
    fun k hk' => ⟨by rw [ht _ (h.bB k hk').lt]; exact (h.tB k hk').1, (h.tB k hk').2⟩, h.ok⟩

theorem MD.later {w w' : World} {tag : Nat → Nat} {base o : Nat} {s : St} {p : ML} (h : MD w tag base o s p) (hb : Below w.heap.size w w') : MD w' tag base o s p :=
  h.keep (fun k hk _ => hb.block k hk) (fun _ _ => rfl)

theorem MD.other {w w' : World} {tag tag' : Nat → Nat} {base o o' : Nat} {s : St} {p : ML} (h : MD w tag base o s p) (hb : Step tag tag' base o' w w') (ho : o ≠ o') : MD w' tag' base o s p :=
  h.keep (fun k hk ht => hb.kept k hk (by rw [ht]; exact ho)) hb.tags

end Go.Proofs.YtafkkehcacdodaaGreat
