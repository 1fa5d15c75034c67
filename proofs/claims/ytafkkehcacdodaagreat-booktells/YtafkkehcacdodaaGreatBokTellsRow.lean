/- What the law BookTells keeps in memory: a row of asks, two rows of six numbers; how a book's run goes by them. -/
import Derived.Test.YtafkkehcacdodaaGreatBokTold2
import Derived.Test.YtafkkehcacdodaaGreatBokRun
import Derived.Test.YtafkkehcacdodaaGreatTraSame
set_option maxRecDepth 100000
namespace Go.Proofs.YtafkkehcacdodaaGreat
open Go.RowKit Go.Shelf

theorem spC_one (s : Sp) : ∀ u ∈ spC s, u.oneCell' = true := by
  intro u hu
  unfold spC at hu
  simp at hu
  rcases hu with rfl | rfl | rfl | rfl | rfl | rfl <;> rfl

theorem sp_news (w : World) (s : Sp) (j : Nat) (u : Value) (h : (spC s)[j]? = some u) : (w.alloc (.cells #[.int .u32 s.sub, .int .u32 s.addr, .int .i64 s.block, .int .i64 s.frm, .int .i64 s.til, .bool s.opn] 59)).cell? ⟨w.heap.size, j, none⟩ = some u := by
  rw [(blk_new w #[.int .u32 s.sub, .int .u32 s.addr, .int .i64 s.block, .int .i64 s.frm, .int .i64 s.til, .bool s.opn] _).cell]; exact h

/-- The row of asks: its tag is nobody's. -/
def AskR (w : World) (tag : Nat → Nat) (base : Nat) (v : Value) (L : List Sp) : Prop := Win w 6 v L.length (L.flatMap spC) ∧ ∀ g, v.ownBlock = some g → tag g = 641 ∧ base ≤ g

section
variable {w wr : World} {tag tag' : Nat → Nat} {base : Nat} {v : Value} {L : List Sp}

theorem AskR.step {lo hi : Nat} (h : AskR w tag base v L) (hS : StepR tag tag' base lo hi w wr) (hh : hi < 40 ∨ 40 < lo) : AskR wr tag' base v L :=
  ⟨h.1.same (fun g hg => hS.kept g (h.1.lt g hg) (by rw [(h.2 g hg).1]; omega)), fun g hg => by rw [hS.tags g (h.1.lt g hg)]; exact h.2 g hg⟩

theorem win_sps {w : World} {v : Value} {l : List Sp} (h : Win w 6 v l.length (l.flatMap spC)) : ∃ B O, Sps w v B O l := by
  rcases h.2 with ⟨h1, h2⟩ | ⟨g, o, cap, cs, h1, hb, h2, h3, h4, h5⟩
  · have hl : l = [] := List.eq_nil_of_length_eq_zero h2
    subst hl
    exact ⟨0, 0, none, 0, by rw [h1]; rfl, by simp, by decide, .inr rfl, fun i e he => by simp at he⟩
  · refine ⟨g, o, _, cap, h1, h2, h3, .inl rfl, fun i e he => ?_⟩
    have hlt := (List.getElem?_eq_some_iff.1 he).1
    have hr := hb.range o (l.length * 6)
    rw [h5] at hr
    have hg : ∀ j, j < 6 → (l.flatMap spC)[i * 6 + j]? = (spC e)[j]? := fun j hj => flat_get (f := spC) (fun s => show (spC s).length = 6 from rfl) he hj
    refine ⟨?_, ?_, ?_, ?_, ?_, ?_⟩
    · have := hr (i * 6 + 0) (.int .u32 e.sub) (by rw [hg 0 (by omega)]; rfl); simpa using this
    · have := hr (i * 6 + 1) (.int .u32 e.addr) (by rw [hg 1 (by omega)]; rfl); rwa [← Nat.add_assoc] at this
    · have := hr (i * 6 + 2) (.int .i64 e.block) (by rw [hg 2 (by omega)]; rfl); rwa [← Nat.add_assoc] at this
    · have := hr (i * 6 + 3) (.int .i64 e.frm) (by rw [hg 3 (by omega)]; rfl); rwa [← Nat.add_assoc] at this
    · have := hr (i * 6 + 4) (.int .i64 e.til) (by rw [hg 4 (by omega)]; rfl); rwa [← Nat.add_assoc] at this
    · have := hr (i * 6 + 5) (.bool e.opn) (by rw [hg 5 (by omega)]; rfl); rwa [← Nat.add_assoc] at this

/-- One more is asked for. -/
theorem AskR.push (h : AskR w tag base v L) (hbase : base ≤ w.heap.size) (hl : L.length ≤ 900000) (s : Sp) :
    ∃ a c a5 c5 w5 tag5, v = .slice a L.length c ∧ (Builtin.append_ #[57, 57] 57 #[.slice a L.length c, .slice (some ⟨w.heap.size, 0, none⟩) 1 1]).run Tryz.prog (w.alloc (.cells #[.int .u32 s.sub, .int .u32 s.addr, .int .i64 s.block, .int .i64 s.frm, .int .i64 s.til, .bool s.opn] 59)) = .ok (.slice a5 (L.length + 1) c5) w5 ∧
      AskR w5 tag5 base (.slice a5 (L.length + 1) c5) (L ++ [s]) ∧ StepR tag tag5 base 40 40 w w5 := by
  obtain ⟨a, c, hv, _, _⟩ := win_form h.1
  obtain ⟨i0, hi, hz0, hz1, hz2⟩ := info_parts infoSp
  have hB := below_alloc w (.cells #[.int .u32 s.sub, .int .u32 s.addr, .int .i64 s.block, .int .i64 s.frm, .int .i64 s.til, .bool s.opn] 59)
  have h1 : ([s].flatMap spC) = spC s := by rw [List.flatMap_cons, List.flatMap_nil, List.append_nil]
  obtain ⟨v', w5, hr, hwin, hg, hat⟩ := win_append (P := Tryz.prog) (w.alloc (.cells #[.int .u32 s.sub, .int .u32 s.addr, .int .i64 s.block, .int .i64 s.frm, .int .i64 s.til, .bool s.opn] 59)) 57 57 59 i0 _ 6 40 Tryz.underlying57 hi hz0 hz1 hz2 rfl (by decide) v L.length _ (h.1.later hB)
    (some ⟨w.heap.size, 0, none⟩) 1 1 (spC s) rfl (.inl ⟨_, rfl, fun j u hj => by rw [add_at, Nat.zero_add]; exact sp_news w s j u hj⟩) (spC_one s) (by unfold maxLen; omega) (by omega)
  obtain ⟨a5, c5, rfl, _⟩ := win_form hwin
  have hown : ∀ g, (Value.slice a5 (L.length + 1) c5).ownBlock = some g → v.ownBlock = some g ∨ w.heap.size ≤ g := fun g hgv => by
    rcases hat with e1 | e1
    · left; rw [← e1]; exact hgv
    · right; rw [e1] at hgv; simp at hgv; omega
  have hkp : ∀ g, g < w.heap.size → v.ownBlock ≠ some g → w5.heap[g]? = w.heap[g]? := fun g hlt hne =>
    (hg.block g (Nat.lt_of_lt_of_le hlt hB.size) (fun e => hne e.symm)).trans (hB.block g hlt)
  obtain ⟨tag5, ht5⟩ : ∃ t, t = retag (clip tag w.heap.size) (.slice a5 (L.length + 1) c5) 641 := ⟨_, rfl⟩
  have hown5 : ∀ g, (Value.slice a5 (L.length + 1) c5).ownBlock = some g → tag5 g = 641 := fun g hg => by rw [ht5]; simp [retag, hg]
  have hts : ∀ k, k < w.heap.size → tag5 k = tag k := fun k hk => by
    by_cases e : (Value.slice a5 (L.length + 1) c5).ownBlock = some k
    · rw [hown5 k e]
      rcases hown k e with e1 | e1
      · exact ((h.2 k e1).1).symm
      · omega
    · rw [ht5]
      unfold retag
      rw [if_neg e, clip_lt _ _ _ hk]
  refine ⟨a, c, a5, c5, w5, tag5, hv, by rw [← hv]; exact hr, ⟨?_, fun g hgv => ?_⟩, ⟨(hB.mono hbase).grown hg (Nat.le_trans hbase hB.size) (fun k hk => (h.2 k hk).2), hts, fun k hk hne => hkp k hk (fun e => by have := (h.2 k e).1; omega)⟩⟩
  · rw [List.flatMap_append, List.length_append, h1]; exact hwin
  · rcases hown g hgv with e1 | e1
    · exact ⟨hown5 g hgv, (h.2 g e1).2⟩
    · exact ⟨hown5 g hgv, by omega⟩

end

/-! ### Six numbers -/
def six (f : Nat → Int) : List Value := [.int .i64 (f 0), .int .i64 (f 1), .int .i64 (f 2), .int .i64 (f 3), .int .i64 (f 4), .int .i64 (f 5)]

theorem six_at (f : Nat → Int) {κ : Nat} (h : κ < 6) : (six f)[κ]? = some (.int .i64 (f κ)) := by
  match κ, h with
  | 0, _ => rfl
  | 1, _ => rfl
  | 2, _ => rfl
  | 3, _ => rfl
  | 4, _ => rfl
  | 5, _ => rfl

theorem six_set (f : Nat → Int) {κ : Nat} (h : κ < 6) (v : Int) : (six f).set κ (.int .i64 v) = six (upd f κ v) := by
  match κ, h with
  | 0, _ => rfl
  | 1, _ => rfl
  | 2, _ => rfl
  | 3, _ => rfl
  | 4, _ => rfl
  | 5, _ => rfl

/-- A row of six numbers, of a tag. -/
def Arr (w : World) (tag : Nat → Nat) (base ob T : Nat) (f : Nat → Int) : Prop := Blk w ob (six f) ∧ tag ob = T ∧ base ≤ ob

section
variable {w wr : World} {tag tag' : Nat → Nat} {base ob T : Nat} {f : Nat → Int}

theorem Arr.step {lo hi : Nat} (h : Arr w tag base ob T f) (hS : StepR tag tag' base lo hi w wr) (hh : hi < T / 16 ∨ T / 16 < lo) : Arr wr tag' base ob T f :=
  ⟨h.1.same (hS.kept ob h.1.lt (by rw [h.2.1]; omega)), by rw [hS.tags ob h.1.lt]; exact h.2.1, h.2.2⟩

theorem Arr.cell (h : Arr w tag base ob T f) {κ : Nat} (hκ : κ < 6) : w.cell? ⟨ob, κ, none⟩ = some (.int .i64 (f κ)) := by rw [h.1.cell κ]; exact six_at f hκ

theorem Arr.frozen (h : Arr w tag base ob T f) (κ : Nat) : w.frozen? ⟨ob, κ, none⟩ = false := h.1.frozen κ

theorem Arr.set (h : Arr w tag base ob T f) {κ : Nat} (hκ : κ < 6) (v : Int) : Arr (w.setCell ⟨ob, κ, none⟩ (.int .i64 v)) tag base ob T (upd f κ v) ∧ StepR tag tag base (T / 16) (T / 16) w (w.setCell ⟨ob, κ, none⟩ (.int .i64 v)) :=
  ⟨⟨by rw [← six_set f hκ]; exact h.1.set κ _, h.2.1, h.2.2⟩, (step_set tag base (T / 16) w h.2.2 (by rw [h.2.1]) κ _).range (Nat.le_refl _) (Nat.le_refl _)⟩

end

theorem Run.side {w : World} {N D B k : Nat} {m : Bm} {G : List Tr} {wr wr' : World} {tag tag' : Nat → Nat} {lo hi : Nat} (h : Run w N D B k m G wr tag) (hS : StepR tag tag' w.heap.size lo hi wr wr') (hl : 4 ≤ lo) : Run w N D B k m G wr' tag' :=
  ⟨h.bk.otherR hS (by omega), h.ok, h.sv, h.sf, h.n, h.outs, h.recs, h.L, h.G, fun j hj => by rw [hS.tags j (Nat.lt_of_lt_of_le hj h.below.size)]; exact h.z j hj, h.below.trans hS.below⟩

/-- Between two deeds. -/
structure TI (w : World) (D B ob tb k : Nat) (m : Bm) (G : List Tr) (ow tm : Nat → Int) (now : Int) (A : List Sp) (vq : Value) (wr : World) (tag : Nat → Nat) : Prop where
  run : Run w 400 D B k m G wr tag
  told : Told G m.D ow tm now A
  a1 : Arr wr tag w.heap.size ob 656 ow
  a2 : Arr wr tag w.heap.size tb 672 tm
  row : AskR wr tag w.heap.size vq A

section
variable {w : World} {D B ob tb k : Nat} {m : Bm} {G : List Tr} {ow tm : Nat → Int} {now : Int} {A : List Sp} {vq : Value} {wr wr' : World} {tag tag' : Nat → Nat}

theorem TI.next (h : TI w D B ob tb k m G ow tm now A vq wr tag) : TI w D B ob tb (k + 1) m G ow tm now A vq wr tag := ⟨h.run.next, h.told, h.a1, h.a2, h.row⟩
theorem TI.now' (h : TI w D B ob tb k m G ow tm now A vq wr tag) {now' : Int} (hn : now ≤ now') : TI w D B ob tb k m G ow tm now' A vq wr tag := ⟨h.run, h.told.now' hn, h.a1, h.a2, h.row⟩

theorem TI.put1 {ow' : Nat → Int} (h : Run w 400 D B k m G wr tag) (a1 : Arr wr tag w.heap.size ob 656 ow) (a2 : Arr wr tag w.heap.size tb 672 tm) (row : AskR wr tag w.heap.size vq A) {κ : Nat} (hκ : κ < 6) (v : Int) (ho : ow' = upd ow κ v) :
    Run w 400 D B k m G (wr.setCell ⟨ob, κ, none⟩ (.int .i64 v)) tag ∧ Arr (wr.setCell ⟨ob, κ, none⟩ (.int .i64 v)) tag w.heap.size ob 656 ow' ∧ Arr (wr.setCell ⟨ob, κ, none⟩ (.int .i64 v)) tag w.heap.size tb 672 tm ∧ AskR (wr.setCell ⟨ob, κ, none⟩ (.int .i64 v)) tag w.heap.size vq A := by
  obtain ⟨s1, s2⟩ := a1.set hκ v
  subst ho
  exact ⟨h.side s2 (by decide), s1, a2.step s2 (by decide), row.step s2 (by decide)⟩

theorem TI.put2 (h : Run w 400 D B k m G wr tag) (a1 : Arr wr tag w.heap.size ob 656 ow) (a2 : Arr wr tag w.heap.size tb 672 tm) (row : AskR wr tag w.heap.size vq A) {κ : Nat} (hκ : κ < 6) (v : Int) :
    Run w 400 D B k m G (wr.setCell ⟨tb, κ, none⟩ (.int .i64 v)) tag ∧ Arr (wr.setCell ⟨tb, κ, none⟩ (.int .i64 v)) tag w.heap.size ob 656 ow ∧ Arr (wr.setCell ⟨tb, κ, none⟩ (.int .i64 v)) tag w.heap.size tb 672 (upd tm κ v) ∧ AskR (wr.setCell ⟨tb, κ, none⟩ (.int .i64 v)) tag w.heap.size vq A := by
  obtain ⟨s1, s2⟩ := a2.set hκ v
  exact ⟨h.side s2 (by decide), a1.step s2 (by decide), s1, row.step s2 (by decide)⟩

end

end Go.Proofs.YtafkkehcacdodaaGreat
