/- Two disks beside one another; Append at whatever bytes; awake. -/
import Derived.Test.YtafkkehcacdodaaGreatM13
import Derived.Test.YtafkkehcacdodaaGreatM11
import Derived.Test.YtafkkehcacdodaaGreatSecRef7
import Derived.Lib.SmallJoins
import Derived.Laws.IdiomStrings
import Derived.Test.YtafkkehcacdodaaGreatM2
import Derived.BigQuiet
import Derived.Test.YtafkkehcacdodaaGreatM14
import Derived.Deep.LoopGhost
import Derived.Test.YtafkkehcacdodaaGreatM10
import Derived.Test.YtafkkehcacdodaaGreatM9
import Derived.Test.YtafkkehcacdodaaGreatStrAppend
import Derived.Test.YtafkkehcacdodaaGreatM15
import Derived.Deep.RegionHeld3
import Derived.BigRegion
set_option maxRecDepth 100000
namespace Go.Proofs.YtafkkehcacdodaaGreat
open Go.RowKit

theorem append_any8 (w : World) (tag : Nat → Nat) (base o o' : Nat) (ho : o ≠ o') (ho1 : 1 ≤ o) (ho2 : 1 ≤ o') (s : St) (p : PL) (h : PD w tag base o s p) (t : Sd) (q : SL) (D S : Nat) (hD : p.D = D) (hS : q.S = S) (hq : PO w tag base o' D t q) (hbase : base ≤ w.heap.size) (ht : t.Ok s.n) (v : Value) (b : List Int) (hv : Bts w v b) (hvh : b ≠ [] → Held w tag v b)
    (hops : s.ops ≤ 1000000) (hout : s.outs.length ≤ 1000000) (hsin : s.since.length ≤ 1000000) (hrec : t.recs.length ≤ 900000) :
    Calls Tryz.prog 89 #[.pointer (some ⟨S, 0, none⟩), v] w fun e w' => e = .returned (.int .i64 (appE s t b)) ∧ AppPost w tag base o o' s D t S b w' := by
  subst hD; subst hS
  by_cases hE : frameE b = 0
  · exact append_ok8 w tag base o o' ho ho1 ho2 s p h t q hq hbase ht v b (hvh (fun e => by rw [e] at hE; cases hE)) hE hops hout hsin hrec
  · exact append_no w tag base o o' s p h t q hq v b hv hE

theorem sec_zeros (n k : Nat) (h : k < n) : sec (zeros (n * 64)) k = zeros 64 := by
  unfold sec zeros
  rw [List.drop_replicate, List.take_replicate]
  congr 1
  omega

theorem openK_new (n : Nat) : ∀ k, k ≤ n → openK (zeros (n * 64)) k = ⟨0, 0, []⟩ := by
  intro k
  induction k with
  | zero => intro _; rfl
  | succ k ih =>
    intro hk
    rw [openK_step, ih (by omega), sec_zeros n k (by omega)]
    rfl

theorem openT_new (n : Nat) : openT (St.new n) = ⟨0, 0, []⟩ := openK_new n n (Nat.le_refl _)

theorem app_a : appE (St.new 2) ⟨0, 0, []⟩ [97] = 0 ∧ appT (St.new 2) ⟨0, 0, []⟩ [97] = ⟨0, 8, [(0, [97])]⟩ := ⟨rfl, rfl⟩

theorem conv8 (w : World) (C : Array Value) (n c g : Nat) (hg : g = w.heap.size) :
    (convert 39 39 (.slice (some ⟨g, 0, none⟩) n c)).run Tryz.prog (w.alloc (.cells C 5)) = .ok (.slice (some ⟨g, 0, none⟩) n c) (w.alloc (.cells C 5 (C.size, C.size + 1))) :=
  Go.Joins.run_convert_bytes_const_at w 39 5 C n c g hg Tryz.underlying39 Tryz.underlying5

theorem held_lit (w : World) (tag : Nat → Nat) (l : List Int) (hb : isBytes l) (hl : l.length ≤ maxLen) (m : Nat × Nat) : Held (w.alloc (.cells (bytesV l).toArray 5 m)) (clip tag w.heap.size) (.slice (some ⟨w.heap.size, 0, none⟩) l.length l.length) l := by
  refine ⟨⟨_, _, w.heap.size, 0, rfl, Nat.le_refl _, hl, hb, .inl rfl, fun i hi => ?_⟩, fun g hg => ?_⟩
  · rw [Nat.zero_add]
    unfold World.cell?
    rw [World.alloc_heap_new]
    simp [List.getElem?_eq_getElem hi]
  · simp [Value.ownBlock] at hg
    subst hg
    exact ⟨by simp [clip], by simp⟩

/-- A row of slices, read. -/
theorem Lst.read {w : World} {base : Nat} {v : Value} {vs : List Value} {ls : List (List Int)} (h : Lst w base v vs ls) (hne : 0 < ls.length) : ∃ B O c, v = .slice (some ⟨B, O, none⟩) ls.length c ∧ ls.length ≤ c ∧ c ≤ maxLen ∧ ∀ i, i < ls.length → w.cell? ⟨B, O + i, none⟩ = some (vs.getD i undef) := by
  rcases h.win.2 with ⟨_, h0⟩ | ⟨B, O, c, cs, e, hb, h2, h3, h4, h5⟩
  · omega
  refine ⟨B, O, c, e, h2, h3, fun i hi => ?_⟩
  have hvl : vs.length = ls.length := by have := h.win.1; omega
  exact hb.range O (ls.length * 1) i (vs.getD i undef) (by rw [h5]; simp [List.getD, List.getElem?_eq_getElem (show i < vs.length by omega)])

end Go.Proofs.YtafkkehcacdodaaGreat

namespace Go.Proofs.YtafkkehcacdodaaGreat
open Go.RowKit

theorem Few.write {s : St} {n q : Nat} (h : Few s n q) (k : Nat) (l : List Int) : Few (s.write k l) n (q + 1) := by
  unfold St.write
  split
  · exact ⟨h.n, Nat.succ_le_succ h.ops, by simp [St.wrote, St.take]; exact h.sin⟩
  · exact h.take

theorem Few.app {s : St} {n q : Nat} (h : Few s n q) (t : Sd) (b : List Int) : Few (appS s t b) n (q + 1) := by
  unfold appS
  split
  · exact h.mono
  · split
    · exact h.mono
    · exact h.write _ _

theorem outs_write (s : St) (k : Nat) (l : List Int) : (s.write k l).outs.length ≤ s.outs.length := by
  unfold St.write
  split
  · exact outs_take s
  · exact outs_take s

theorem outs_app (s : St) (t : Sd) (b : List Int) : (appS s t b).outs.length ≤ s.outs.length := by
  unfold appS
  split
  · exact Nat.le_refl _
  · split
    · exact Nat.le_refl _
    · exact outs_write s _ _

theorem few_new (n q : Nat) : Few (St.new n) n q := ⟨rfl, Nat.zero_le _, Nat.zero_le _⟩

theorem out_nil {s : St} (h : s.outs.length ≤ 0) : s.out = 0 := by
  have : s.outs = [] := List.eq_nil_of_length_eq_zero (by omega)
  unfold St.out; rw [this]; rfl

theorem Held.grow {w w' : World} {tag tag' : Nat → Nat} {v : Value} {l : List Int} (h : Held w tag v l) (hb : Below w.heap.size w w') (ht : ∀ k, k < w.heap.size → tag' k = tag k) : Held w' tag' v l :=
  ⟨h.1.later hb, fun g hg => ⟨by rw [ht g (h.2 g hg).2]; exact (h.2 g hg).1, Nat.lt_of_lt_of_le (h.2 g hg).2 hb.size⟩⟩

theorem held0 {w : World} {v : Value} {l : List Int} (h : Bts w v l) (hl : l ≠ []) : Held w (fun _ => 0) v l := ⟨h, fun g hg => ⟨rfl, bts_lt h hl g hg⟩⟩

end Go.Proofs.YtafkkehcacdodaaGreat

namespace Go.Proofs.YtafkkehcacdodaaGreat
open Go.RowKit

theorem bytesE_len {e : En} (h : e.May) : 9 ≤ (bytesE e).length ∧ (bytesE e).length ≤ 19 := by
  have h1 := bytesE_length h
  rcases h.kind with ⟨hk, _⟩ | ⟨hk, _⟩ | ⟨hk, _⟩ <;> rw [hk] at h1 <;> simp [sizeK] at h1 <;> omega

theorem frameE_bytes {e : En} (h : e.May) : frameE (bytesE e) = 0 := by
  have := bytesE_len h
  unfold frameE
  rw [if_neg (by omega), if_neg (by omega)]

/-- Entries are appended one behind the other, up to the first error: the error, the disk, the strand. -/
def layE : St → Sd → List En → Int
  | _, _, [] => 0
  | s, t, e :: r => if appE s t (bytesE e) ≠ 0 then appE s t (bytesE e) else layE (appS s t (bytesE e)) (appT s t (bytesE e)) r
def layS : St → Sd → List En → St
  | s, _, [] => s
  | s, t, e :: r => if appE s t (bytesE e) ≠ 0 then appS s t (bytesE e) else layS (appS s t (bytesE e)) (appT s t (bytesE e)) r
def layT : St → Sd → List En → Sd
  | _, t, [] => t
  | s, t, e :: r => if appE s t (bytesE e) ≠ 0 then appT s t (bytesE e) else layT (appS s t (bytesE e)) (appT s t (bytesE e)) r

/-- Appended, and a Sync. -/
def wrtE (s : St) (t : Sd) (l : List En) : Int := if layE s t l ≠ 0 then layE s t l else errC (layS s t l).out
def wrtS (s : St) (t : Sd) (l : List En) : St := if layE s t l ≠ 0 then layS s t l else (layS s t l).sync
def wrtT (s : St) (t : Sd) (l : List En) : Sd := if layE s t l ≠ 0 then layT s t l else synT (layS s t l) (layT s t l)

/-- A book, its strand and its disk. -/
structure Bm where
  s : St
  t : Sd
  L : List En
  D : List En

/-- The release that is owed for a grant. -/
def relE (e : En) : En := ⟨3, e.time, 0, e.addr, e.block⟩

def Bm.payE (b : Bm) : Int := if b.D = [] then 0 else wrtE b.s b.t b.D
def Bm.paid (b : Bm) : Bm := ⟨wrtS b.s b.t b.D, wrtT b.s b.t b.D, if wrtE b.s b.t b.D = 0 then b.L ++ b.D else b.L, if wrtE b.s b.t b.D = 0 then [] else b.D⟩
def Bm.pay (b : Bm) : Bm := if b.D = [] then b else b.paid
def Bm.wrote (b : Bm) (e : En) : Bm := ⟨wrtS b.s b.t [e], wrtT b.s b.t [e], if wrtE b.s b.t [e] = 0 then b.L ++ [e] else b.L, if wrtE b.s b.t [e] ≠ 0 ∧ e.kind = 2 ∧ wrtE b.s b.t [e] ≠ 6 then b.D ++ [relE e] else b.D⟩
def Bm.putE (b : Bm) (e : En) : Int := if checkE e ≠ 0 then checkE e else if b.payE ≠ 0 then b.payE else wrtE b.pay.s b.pay.t [e]
def Bm.put (b : Bm) (e : En) : Bm := if checkE e ≠ 0 then b else if b.payE ≠ 0 then b.pay else b.pay.wrote e

/-- The entries among records. -/
def foundE (l : List (List Int)) : List En := (l.filter fun b => decide (whyE b = 0)).map entE
def bootE (now : Int) : En := ⟨1, now, 0, 0, 0⟩
/-- The releases of what is open. -/
def endsE (S : List Sp) (now : Int) : List En := (S.filter fun s => s.opn).map fun s => ⟨3, max now s.frm, 0, s.addr, s.block⟩
def moreE (L : List En) (now : Int) : List En := endsE (spans L) now ++ [bootE now]
def goodT (now : Int) : Bool := decide (0 ≤ now ∧ now ≤ 1099511627776)
def startL (s : St) : List En := foundE (bodies (openT s))
def opnE (s : St) (now : Int) : Int := wrtE s (openT s) (moreE (startL s) now)
def opnS (s : St) (now : Int) : St := wrtS s (openT s) (moreE (startL s) now)
def opnB (s : St) (now : Int) : Bm := ⟨opnS s now, wrtT s (openT s) (moreE (startL s) now), startL s ++ moreE (startL s) now, []⟩

/-- Entries that may be. -/
def Fine (l : List En) : Prop := ∀ e ∈ l, e.May ∧ e.Ok

theorem Fine.app {l m : List En} (h : Fine l) (k : Fine m) : Fine (l ++ m) := fun e he => by
  rcases List.mem_append.1 he with he | he
  · exact h e he
  · exact k e he
theorem Fine.nil : Fine [] := fun e he => by cases he
theorem Fine.one {e : En} (h : e.May) (k : e.Ok) : Fine [e] := fun x hx => by rw [List.mem_singleton.1 hx]; exact ⟨h, k⟩
theorem Fine.ok {l : List En} (h : Fine l) : ∀ e ∈ l, e.Ok := fun e he => (h e he).2

theorem checkE_zero {e : En} (h : checkE e = 0) : e.May := by
  unfold checkE at h
  split at h
  · rename_i hm; exact of_decide_eq_true hm
  · cases h

theorem checkE_may {e : En} (h : e.May) : checkE e = 0 := by
  unfold checkE mayB
  rw [if_pos (decide_eq_true h)]

theorem check_cases (e : En) : checkE e = 0 ∨ checkE e = 1 := by
  unfold checkE
  split <;> simp

theorem rel_may {e : En} (h : e.May) (hk : e.kind = 2) : (relE e).May := by
  refine ⟨h.time0, h.time1, .inr (.inr ⟨rfl, ?_, ?_, rfl⟩)⟩
  · rcases h.kind with ⟨k, _⟩ | ⟨_, k, _⟩ | ⟨k, _⟩
    · omega
    · exact k
    · omega
  · rcases h.kind with ⟨k, _⟩ | ⟨_, _, k⟩ | ⟨k, _⟩
    · omega
    · exact k
    · omega

theorem rel_ok {e : En} (h : e.Ok) : (relE e).Ok := ⟨(by decide : (-9223372036854775808 : Int) ≤ 3), (by decide : (3 : Int) ≤ 9223372036854775807), h.time0, h.time1, (by decide : (0 : Int) ≤ 0), (by decide : (0 : Int) < 4294967296), h.addr0, h.addr1, h.block0, h.block1⟩

theorem goodT_boot {now : Int} : goodT now = true ↔ (bootE now).May := by
  unfold goodT
  rw [decide_eq_true_iff]
  exact ⟨fun h => ⟨h.1, h.2, .inl ⟨rfl, rfl, rfl, rfl⟩⟩, fun h => ⟨h.time0, h.time1⟩⟩

theorem boot_okE {now : Int} (h0 : 0 ≤ now) (h1 : now ≤ 1099511627776) : (bootE now).Ok := ⟨(by decide : (-9223372036854775808 : Int) ≤ 1), (by decide : (1 : Int) ≤ 9223372036854775807), by show _ ≤ now; omega, by show now ≤ _; omega, (by decide : (0 : Int) ≤ 0), (by decide : (0 : Int) < 4294967296), (by decide : (0 : Int) ≤ 0), (by decide : (0 : Int) < 4294967296), (by decide : (-9223372036854775808 : Int) ≤ 0), (by decide : (0 : Int) ≤ 9223372036854775807)⟩

theorem found_fine {l : List (List Int)} (h : ∀ b ∈ l, isBytes b) : Fine (foundE l) := by
  intro e he
  unfold foundE at he
  obtain ⟨b, hb, rfl⟩ := List.mem_map.1 he
  obtain ⟨hb1, hb2⟩ := List.mem_filter.1 hb
  exact ⟨(bytesE_entE (h b hb1) (by simpa using hb2)).1, entE_ok b (h b hb1)⟩

theorem found_len (l : List (List Int)) : (foundE l).length ≤ l.length := by
  unfold foundE
  rw [List.length_map]
  exact List.length_filter_le _ _

/-- Each span is a grant's. -/
theorem spans_from (l : List En) : ∀ s ∈ spans l, ∃ e ∈ l, e.kind = 2 ∧ s.sub = e.sub ∧ s.addr = e.addr ∧ s.block = e.block ∧ s.frm = e.time := by
  unfold spans
  suffices H : ∀ (m l : List En) (acc : List Sp), (∀ e ∈ l, e ∈ m) → (∀ s ∈ acc, ∃ e ∈ m, e.kind = 2 ∧ s.sub = e.sub ∧ s.addr = e.addr ∧ s.block = e.block ∧ s.frm = e.time) → ∀ s ∈ l.foldl stepS acc, ∃ e ∈ m, e.kind = 2 ∧ s.sub = e.sub ∧ s.addr = e.addr ∧ s.block = e.block ∧ s.frm = e.time from
    H l l [] (fun _ h => h) (fun s hs => by cases hs)
  intro m l
  induction l with
  | nil => intro acc _ h; exact h
  | cons e l ih =>
    intro acc hm h
    refine ih (stepS acc e) (fun x hx => hm x (by simp [hx])) ?_
    have hshut : ∀ (o : Option Nat) (t : Int), (∀ i, o = some i → i < acc.length) → ∀ s ∈ shutI acc o t, ∃ e ∈ m, e.kind = 2 ∧ s.sub = e.sub ∧ s.addr = e.addr ∧ s.block = e.block ∧ s.frm = e.time := by
      intro o t ho s hs
      cases o with
      | none => exact h s hs
      | some i =>
        rcases List.mem_or_eq_of_mem_set hs with h' | rfl
        · exact h s h'
        · have hi := ho i rfl
          refine h (acc.getD i default) ?_
          rw [List.getD_eq_getElem?_getD, List.getElem?_eq_getElem hi]
          exact List.getElem_mem hi
    unfold stepS
    split
    · rename_i hk
      intro s hs
      rcases List.mem_append.1 hs with hs | hs
      · exact hshut _ _ (fun i hi => openI_lt hi) s hs
      · rw [List.mem_singleton.1 hs]
        exact ⟨e, hm e (by simp), hk, rfl, rfl, rfl, rfl⟩
    · split
      · exact hshut _ _ (fun i hi => openI_lt hi)
      · exact h

theorem ends_fine {l : List En} (h : Fine l) {now : Int} (h0 : 0 ≤ now) (h1 : now ≤ 1099511627776) : Fine (endsE (spans l) now) := by
  intro e he
  unfold endsE at he
  obtain ⟨s, hs, rfl⟩ := List.mem_map.1 he
  obtain ⟨x, hx, hk, _, e2, e3, e4⟩ := spans_from l s (List.mem_filter.1 hs).1
  obtain ⟨hm, ho⟩ := h x hx
  have t0 := hm.time0
  have t1 := hm.time1
  have hb : 0 ≤ x.block ∧ x.block ≤ 65535 := by
    rcases hm.kind with ⟨k, _⟩ | ⟨_, k⟩ | ⟨k, _⟩
    · omega
    · exact k
    · omega
  have ha0 := ho.addr0
  have ha1 := ho.addr1
  refine ⟨⟨?_, ?_, .inr (.inr ⟨rfl, ?_, ?_, rfl⟩)⟩, ⟨(by decide : (-9223372036854775808 : Int) ≤ 3), (by decide : (3 : Int) ≤ 9223372036854775807), ?_, ?_, (by decide : (0 : Int) ≤ 0), (by decide : (0 : Int) < 4294967296), ?_, ?_, ?_, ?_⟩⟩
  · show 0 ≤ max now s.frm; omega
  · show max now s.frm ≤ _; omega
  · show 0 ≤ s.block; omega
  · show s.block ≤ _; omega
  · show _ ≤ max now s.frm; omega
  · show max now s.frm ≤ _; omega
  · show 0 ≤ s.addr; omega
  · show s.addr < _; omega
  · show _ ≤ s.block; omega
  · show s.block ≤ _; omega

theorem more_fine {l : List En} (h : Fine l) {now : Int} (h0 : 0 ≤ now) (h1 : now ≤ 1099511627776) : Fine (moreE l now) :=
  (ends_fine h h0 h1).app (.one (goodT_boot.1 (by simp [goodT, h0, h1])) (boot_okE h0 h1))

theorem ends_len (l : List En) (now : Int) : (endsE (spans l) now).length ≤ l.length := by
  unfold endsE
  rw [List.length_map]
  exact Nat.le_trans (List.length_filter_le _ _) (spans_length l)

theorem more_len (l : List En) (now : Int) : (moreE l now).length ≤ l.length + 1 := by
  unfold moreE
  rw [List.length_append]
  have := ends_len l now
  simp
  omega

/-! ### Numbers stay small -/
theorem appS_ok {s : St} (h : s.Ok) {t : Sd} (ht : t.Ok s.n) (b : List Int) (hb : isBytes b) : (appS s t b).Ok ∧ (appS s t b).n = s.n := by
  unfold appS
  by_cases hE : frameE b ≠ 0
  · rw [if_pos hE]; exact ⟨h, rfl⟩
  rw [if_neg hE]
  have hE' : frameE b = 0 := by simpa using hE
  obtain ⟨f1, f2, _⟩ := ht.fit b hE'
  have hfl := frameB_len b
  have hl : b.length ≤ 56 := by
    unfold frameE at hE'
    split at hE'
    · cases hE'
    · split at hE'
      · cases hE'
      · omega
  split
  · exact ⟨h, rfl⟩
  · rename_i hn
    have hs := sec_len h.nl (show (t.fit b).pos < s.n by omega)
    have hW : (withB (sec s.now (t.fit b).pos) (t.fit b).used (frameB b)).length = 64 := withB_len _ _ _ hs (by omega)
    have hWb := withB_bytes _ (t.fit b).used _ (sec_bytes h.nb (t.fit b).pos) (frameB_bytes b hb hl)
    unfold St.write
    split
    · exact ⟨h.take.wrote (by show _ < s.n; omega) hW hWb, rfl⟩
    · exact ⟨h.take, rfl⟩

theorem sync_okS {s : St} (h : s.Ok) : s.sync.Ok ∧ s.sync.n = s.n := by
  unfold St.sync
  split
  · exact ⟨h.take.settled, rfl⟩
  · exact ⟨h.take, rfl⟩

/-- What goes with a book: small numbers. -/
structure Nb (s : St) (t : Sd) (q : Nat) : Prop where
  ok : s.Ok
  tk : t.Ok s.n
  ops : s.ops ≤ q
  sin : s.since.length ≤ q

theorem Nb.app {s : St} {t : Sd} {q : Nat} (h : Nb s t q) (b : List Int) (hb : isBytes b) : Nb (appS s t b) (appT s t b) (q + 1) ∧ (appS s t b).n = s.n ∧ (appT s t b).recs.length ≤ t.recs.length + 1 := by
  obtain ⟨h1, h2⟩ := appS_ok h.ok h.tk b hb
  obtain ⟨h3, h4⟩ := appT_ok (s := s) h.tk b hb
  have hf : Few s s.n q := ⟨rfl, h.ops, h.sin⟩
  have hf2 := hf.app t b
  exact ⟨⟨h1, by rw [h2]; exact h3, hf2.ops, hf2.sin⟩, h2, h4⟩

theorem Nb.mono {s : St} {t : Sd} {q q' : Nat} (h : Nb s t q) (hq : q ≤ q') : Nb s t q' := ⟨h.ok, h.tk, Nat.le_trans h.ops hq, Nat.le_trans h.sin hq⟩

theorem Nb.sync {s : St} {t : Sd} {q : Nat} (h : Nb s t q) : Nb s.sync (synT s t) (q + 1) ∧ s.sync.n = s.n ∧ (synT s t).recs = t.recs := by
  obtain ⟨h1, h2⟩ := sync_okS h.ok
  obtain ⟨h3, h4⟩ := synT_ok (s := s) h.tk
  have hf : Few s s.n q := ⟨rfl, h.ops, h.sin⟩
  have hf2 := hf.sync
  exact ⟨⟨h1, by rw [h2]; exact h3, hf2.ops, hf2.sin⟩, h2, h4⟩

theorem Nb.lay {q : Nat} : ∀ (l : List En) {s : St} {t : Sd}, Nb s t q → Nb (layS s t l) (layT s t l) (q + l.length) ∧ (layS s t l).n = s.n ∧ (layT s t l).recs.length ≤ t.recs.length + l.length ∧ (layS s t l).outs.length ≤ s.outs.length := by
  intro l
  induction l generalizing q with
  | nil => intro s t h; exact ⟨h, rfl, Nat.le_refl _, Nat.le_refl _⟩
  | cons e r ih =>
    intro s t h
    obtain ⟨h1, h2, h3⟩ := h.app (bytesE e) (bytesE_bytes e)
    have h4 := outs_app s t (bytesE e)
    unfold layS layT
    by_cases he : appE s t (bytesE e) ≠ 0
    · rw [if_pos he, if_pos he]
      exact ⟨h1.mono (by simp), h2, by simp; omega, h4⟩
    · rw [if_neg he, if_neg he]
      obtain ⟨i1, i2, i3, i4⟩ := ih h1
      refine ⟨i1.mono (by simp; omega), i2.trans h2, ?_, Nat.le_trans i4 h4⟩
      rw [List.length_cons]; omega

theorem Nb.wrt {q : Nat} (l : List En) {s : St} {t : Sd} (h : Nb s t q) : Nb (wrtS s t l) (wrtT s t l) (q + l.length + 1) ∧ (wrtS s t l).n = s.n ∧ (wrtT s t l).recs.length ≤ t.recs.length + l.length ∧ (wrtS s t l).outs.length ≤ s.outs.length := by
  obtain ⟨h1, h2, h3, h4⟩ := Nb.lay l h
  unfold wrtS wrtT
  split
  · exact ⟨h1.mono (by omega), h2, h3, h4⟩
  · obtain ⟨k1, k2, k3⟩ := h1.sync
    exact ⟨k1, k2.trans h2, by rw [k3]; exact h3, Nat.le_trans (outs_sync _) h4⟩

/-- A book's numbers: every call of its disk counts one in q. -/
structure Bm.Ok (b : Bm) (q : Nat) : Prop where
  nb : Nb b.s b.t q
  fL : Fine b.L
  fD : Fine b.D
  d1 : b.D.length ≤ 1

theorem Bm.Ok.mono {b : Bm} {q q' : Nat} (h : b.Ok q) (hq : q ≤ q') : b.Ok q' := ⟨h.nb.mono hq, h.fL, h.fD, h.d1⟩

/-- How a book has grown. -/
structure Grew (b b' : Bm) (n : Nat) : Prop where
  sn : b'.s.n = b.s.n
  recs : b'.t.recs.length ≤ b.t.recs.length + n
  L : b'.L.length ≤ b.L.length + n
  outs : b'.s.outs.length ≤ b.s.outs.length

theorem Grew.refl (b : Bm) (n : Nat) : Grew b b n := ⟨rfl, by omega, by omega, Nat.le_refl _⟩
theorem Grew.trans {b c d : Bm} {n m : Nat} (h : Grew b c n) (k : Grew c d m) : Grew b d (n + m) := ⟨k.sn.trans h.sn, by have := h.recs; have := k.recs; omega, by have := h.L; have := k.L; omega, Nat.le_trans k.outs h.outs⟩

theorem Bm.Ok.pay {b : Bm} {q : Nat} (h : b.Ok q) : b.pay.Ok (q + 2) ∧ Grew b b.pay 1 ∧ (b.payE = 0 → b.pay.D = []) := by
  unfold Bm.pay Bm.payE
  by_cases hD : b.D = []
  · rw [if_pos hD, if_pos hD]; exact ⟨h.mono (by omega), Grew.refl _ _, fun _ => hD⟩
  · rw [if_neg hD, if_neg hD]
    obtain ⟨h1, h2, h3, h4⟩ := Nb.wrt b.D h.nb
    have hd := h.d1
    unfold Bm.paid
    refine ⟨⟨h1.mono (by omega), ?_, ?_, ?_⟩, ⟨h2, ?_, ?_, h4⟩, fun e => if_pos e⟩
    · dsimp only
      split
      · exact h.fL.app h.fD
      · exact h.fL
    · dsimp only
      split
      · exact .nil
      · exact h.fD
    · dsimp only
      split
      · simp
      · exact hd
    · exact Nat.le_trans h3 (by omega)
    · dsimp only
      split
      · rw [List.length_append]; omega
      · omega

theorem Bm.Ok.wrote {b : Bm} {q : Nat} (h : b.Ok q) (hD : b.D = []) {e : En} (hm : e.May) (ho : e.Ok) : (b.wrote e).Ok (q + 2) ∧ Grew b (b.wrote e) 1 := by
  obtain ⟨h1, h2, h3, h4⟩ := Nb.wrt [e] h.nb
  unfold Bm.wrote
  refine ⟨⟨h1.mono (by simp), ?_, ?_, ?_⟩, ⟨h2, h3, ?_, h4⟩⟩
  · dsimp only
    split
    · exact h.fL.app (.one hm ho)
    · exact h.fL
  · dsimp only
    split
    · rename_i hc
      exact h.fD.app (.one (rel_may hm hc.2.1) (rel_ok ho))
    · exact h.fD
  · dsimp only
    rw [hD]
    split <;> simp
  · dsimp only
    split
    · simp
    · omega

theorem Bm.Ok.put {b : Bm} {q : Nat} (h : b.Ok q) {e : En} (ho : e.Ok) : (b.put e).Ok (q + 4) ∧ Grew b (b.put e) 2 := by
  unfold Bm.put
  by_cases hc : checkE e = 0
  · rw [if_neg (by simpa using hc)]
    obtain ⟨p1, p2, p3⟩ := h.pay
    by_cases hp : b.payE = 0
    · rw [if_neg (by simpa using hp)]
      obtain ⟨w1, w2⟩ := p1.wrote (p3 hp) (checkE_zero hc) ho
      exact ⟨w1, p2.trans w2⟩
    · rw [if_pos hp]
      exact ⟨p1.mono (by omega), p2.trans (Grew.refl _ 1)⟩
  · rw [if_pos hc]
    exact ⟨h.mono (by omega), Grew.refl _ _⟩

theorem start_len {s : St} (h : s.Ok) : (startL s).length ≤ s.n * 8 := by
  have h1 := found_len (bodies (openT s))
  rw [bodies_len] at h1
  exact Nat.le_trans h1 (openT_ok h).2.1

theorem start_fine {s : St} (h : s.Ok) : Fine (startL s) := found_fine (fun b hb => by
  obtain ⟨x, hx, rfl⟩ := List.mem_map.1 hb
  exact ((openT_ok h).1.rc x hx).2.1)

theorem opn_ok {s : St} (h : s.Ok) {q : Nat} (hops : s.ops ≤ q) (hsin : s.since.length ≤ q) {now : Int} (h0 : 0 ≤ now) (h1 : now ≤ 1099511627776) :
    (opnB s now).Ok (q + (moreE (startL s) now).length + 1) ∧ (opnB s now).s.n = s.n ∧ (opnB s now).t.recs.length ≤ (openT s).recs.length + (moreE (startL s) now).length ∧ (opnB s now).s.outs.length ≤ s.outs.length := by
  have hn : Nb s (openT s) q := ⟨h, (openT_ok h).1, hops, hsin⟩
  obtain ⟨k1, k2, k3, k4⟩ := Nb.wrt (moreE (startL s) now) hn
  exact ⟨⟨k1, (start_fine h).app (more_fine (start_fine h) h0 h1), .nil, by simp [opnB]⟩, k2, k3, k4⟩

end Go.Proofs.YtafkkehcacdodaaGreat

namespace Go.Proofs.YtafkkehcacdodaaGreat
open Go.RowKit

/-- A record that was tried: its sector, its body, whether its Append was OK, whether a Sync that was OK stood behind. -/
structure Tr : Type where
  pl : Nat
  b : List Int
  fi : Bool
  su : Bool

def flatB (R : List Tr) : List Int := R.flatMap fun x => frameB x.b
def cutC (F : List Int) (a : Nat) : List Int := F.take a ++ zeros (64 - a)
def Upto (f : Tr → Bool) (R : List Tr) (a : Nat) : Prop := ∀ i x, R[i]? = some x → f x = true → (flatB (R.take (i + 1))).length ≤ a

theorem cut_get (F : List Int) (a i : Nat) (ha : a ≤ F.length) (hi : i < 64) (h64 : F.length ≤ 64) : (cutC F a)[i]? = some (if i < a then F.getD i 0 else 0) := by
  have hl : (F.take a).length = a := by rw [List.length_take]; omega
  unfold cutC
  split
  · rename_i h
    rw [List.getElem?_append_left (by omega), List.getElem?_take, if_pos h, List.getD, List.getElem?_eq_getElem (by omega)]
    rfl
  · rename_i h
    rw [List.getElem?_append_right (by omega), hl, zeros, List.getElem?_replicate, if_pos (by omega)]

theorem cut_len (F : List Int) (a : Nat) (ha : a ≤ F.length) (h64 : F.length ≤ 64) : (cutC F a).length = 64 := by
  simp [cutC, zeros]; omega

theorem cut_torn (F : List Int) (a b x : Nat) (hab : a ≤ b) (hb : b ≤ F.length) (h64 : F.length ≤ 64) (hx : x ≤ 64) :
    (cutC F b).take x ++ (cutC F a).drop x = cutC F (if x ≤ b then max a x else b) := by
  have la := cut_len F a (by omega) h64
  have lb := cut_len F b hb h64
  have hm : (if x ≤ b then max a x else b) ≤ F.length := by split <;> omega
  have lm := cut_len F _ hm h64
  apply List.ext_getElem?
  intro i
  by_cases hi : i < 64
  · rw [cut_get F _ i hm hi h64]
    by_cases hix : i < x
    · rw [List.getElem?_append_left (by rw [List.length_take]; omega), List.getElem?_take, if_pos hix, cut_get F b i hb hi h64]
      congr 1
      by_cases hib : i < b
      · rw [if_pos hib, if_pos (by split <;> omega)]
      · rw [if_neg hib, if_neg (by split <;> omega)]
    · have hlt : ((cutC F b).take x).length = x := by rw [List.length_take]; omega
      rw [List.getElem?_append_right (by omega), hlt, List.getElem?_drop, show x + (i - x) = i by omega, cut_get F a i (by omega) hi h64]
      congr 1
      by_cases hia : i < a
      · rw [if_pos hia, if_pos (by split <;> omega)]
      · rw [if_neg hia, if_neg (by split <;> omega)]
  · rw [List.getElem?_eq_none (by rw [List.length_append, List.length_take, List.length_drop]; omega), List.getElem?_eq_none (by omega)]

theorem cut_more (F f : List Int) (a : Nat) (h : a ≤ F.length) : cutC (F ++ f) a = cutC F a := by
  unfold cutC
  rw [List.take_append_of_le_length h]

/-- Some of a sector's bytes laid anew. -/
theorem sec_over (l b : List Int) (k n : Nat) (hl : l.length = n * 64) (hb : b.length ≤ 64) (hk : k < n) : sec (splice l (k * 64) b) k = b ++ (sec l k).drop b.length := by
  unfold sec splice
  have h1 : (l.take (k * 64)).length = k * 64 := by rw [List.length_take]; omega
  rw [List.append_assoc, List.drop_append, h1, Nat.sub_self, List.drop_zero, List.drop_of_length_le (by omega), List.nil_append,
    List.take_append, List.take_of_length_le hb, List.drop_take, List.drop_drop]

theorem sec_other (l b : List Int) (j k n : Nat) (hl : l.length = n * 64) (hj : j < n) (hb : b.length ≤ 64) (hk : k ≠ j) : sec (splice l (j * 64) b) k = sec l k := by
  unfold sec splice
  apply List.ext_getElem?
  intro i
  rw [List.getElem?_take, List.getElem?_take]
  split
  · rename_i hi
    rw [List.getElem?_drop, List.getElem?_drop]
    have h1 : (l.take (j * 64)).length = j * 64 := by rw [List.length_take]; omega
    by_cases hlt : k < j
    · rw [List.append_assoc, List.getElem?_append_left (by rw [h1]; omega), List.getElem?_take, if_pos (by omega)]
    · rw [List.append_assoc, List.getElem?_append_right (by rw [h1]; omega), List.getElem?_append_right (by rw [h1]; omega), List.getElem?_drop, h1]
      congr 1
      omega
  · rfl

theorem flat_snoc (R : List Tr) (x : Tr) : flatB (R ++ [x]) = flatB R ++ frameB x.b := by simp [flatB]
theorem flat_cons (x : Tr) (R : List Tr) : flatB (x :: R) = frameB x.b ++ flatB R := by simp [flatB]

theorem Upto.le {f : Tr → Bool} {R : List Tr} {a a' : Nat} (h : Upto f R a) (ha : a ≤ a') : Upto f R a' := fun i x hi hx => Nat.le_trans (h i x hi hx) ha

theorem Upto.snoc {f : Tr → Bool} {R : List Tr} {a : Nat} (h : Upto f R a) (x : Tr) (hx : f x = true → (flatB (R ++ [x])).length ≤ a) : Upto f (R ++ [x]) a := by
  intro i y hi hy
  by_cases hlt : i < R.length
  · rw [List.getElem?_append_left hlt] at hi
    rw [List.take_append_of_le_length (by omega)]
    exact h i y hi hy
  · have hlt2 := (List.getElem?_eq_some_iff.1 hi).1
    rw [List.length_append, List.length_singleton] at hlt2
    have : i = R.length := by omega
    subst this
    rw [List.getElem?_append_right (Nat.le_refl _), Nat.sub_self] at hi
    simp only [List.getElem?_cons_zero, Option.some.injEq] at hi
    subst hi
    rw [List.take_of_length_le (by simp)]
    exact hx hy

theorem Upto.all {f : Tr → Bool} {R : List Tr} : Upto f R (flatB R).length := by
  intro i x _ _
  have : flatB R = flatB (R.take (i + 1)) ++ flatB (R.drop (i + 1)) := by
    unfold flatB; rw [← List.flatMap_append, List.take_append_drop]
  rw [this, List.length_append]
  omega

/-- What lies in a sector, certain and since. -/
structure SecI (s : St) (k : Nat) (R : List Tr) (c : Nat → Nat) : Prop where
  sr : sec s.sure k = cutC (flatB R) (c 0)
  nw : sec s.now k = cutC (flatB R) (c s.since.length)
  mono : ∀ i, i < s.since.length → c i ≤ c (i + 1)
  top : c s.since.length ≤ (flatB R).length
  wr : ∀ i, i < s.since.length → (s.since.getD i (0, [])).1 = k → (s.since.getD i (0, [])).2 = cutC (flatB R) (c (i + 1))
  skip : ∀ i, i < s.since.length → (s.since.getD i (0, [])).1 ≠ k → c (i + 1) = c i
  usu : Upto Tr.su R (c 0)
  ufi : Upto Tr.fi R (c s.since.length)
  f64 : (flatB R).length ≤ 64

theorem SecI.le {s : St} {k : Nat} {R : List Tr} {c : Nat → Nat} (h : SecI s k R c) : ∀ m i, i + m ≤ s.since.length → c i ≤ c (i + m) := by
  intro m
  induction m with
  | zero => intro i _; exact Nat.le_refl _
  | succ m ih => intro i hi; exact Nat.le_trans (ih i (by omega)) (h.mono (i + m) (by omega))

theorem SecI.tops {s : St} {k : Nat} {R : List Tr} {c : Nat → Nat} (h : SecI s k R c) (i : Nat) (hi : i ≤ s.since.length) : c i ≤ (flatB R).length := by
  have := h.le (s.since.length - i) i (by omega)
  rw [show i + (s.since.length - i) = s.since.length by omega] at this
  exact Nat.le_trans this h.top

/-- Behind a crash. -/
theorem SecI.torn {s : St} {k : Nat} {R : List Tr} {c : Nat → Nat} (h : SecI s k R c) (ho : s.Ok) (hk : k < s.n) (ch : List Int) : ∀ i, i ≤ s.since.length → ∃ a, sec (torn ch s.sure s.since i) k = cutC (flatB R) a ∧ c 0 ≤ a ∧ a ≤ c i := by
  intro i
  induction i with
  | zero => intro _; exact ⟨c 0, h.sr, Nat.le_refl _, Nat.le_refl _⟩
  | succ i ih =>
    intro hi
    obtain ⟨a, h1, h2, h3⟩ := ih (by omega)
    obtain ⟨w1, w2, _⟩ := wr_at ho i (by omega)
    have hx := leftN_le ch i
    have hln := (torn_len ho ch i (by omega)).1
    have hm := h.mono i (by omega)
    have ht := h.tops (i + 1) hi
    show ∃ a, sec (splice (Go.Proofs.YtafkkehcacdodaaGreat.torn ch s.sure s.since i) _ _) k = _ ∧ _
    by_cases e : (s.since.getD i (0, [])).1 = k
    · have hw := h.wr i (by omega) e
      rw [e, sec_over _ _ k s.n hln (by rw [List.length_take]; omega) hk, h1, hw]
      have hlt : ((cutC (flatB R) (c (i + 1))).take (leftN ch i)).length = leftN ch i := by rw [List.length_take, cut_len _ _ ht h.f64]; omega
      rw [hlt, cut_torn _ a _ _ (by omega) ht h.f64 hx]
      refine ⟨_, rfl, ?_, ?_⟩
      · split <;> omega
      · split <;> omega
    · rw [sec_other _ _ _ k s.n hln w1 (by rw [List.length_take]; omega) (fun e' => e e'.symm)]
      exact ⟨a, h1, h2, by have := h.skip i (by omega) e; omega⟩

/-- Are records some of those that were tried, in order, all that are sure among them? -/
inductive Btw : List (List Int) → List Tr → Prop
  | nil : Btw [] []
  | skip {h : List (List Int)} {R : List Tr} (x : Tr) : x.su = false → Btw h R → Btw h (x :: R)
  | take {h : List (List Int)} {R : List Tr} (x : Tr) : Btw h R → Btw (x.b :: h) (x :: R)

theorem Btw.append {h h' : List (List Int)} {R R' : List Tr} (a : Btw h R) (b : Btw h' R') : Btw (h ++ h') (R ++ R') := by
  induction a with
  | nil => exact b
  | skip x hx _ ih => exact .skip x hx ih
  | take x _ ih => exact .take x ih

theorem Btw.none {R : List Tr} (h : ∀ x ∈ R, x.su = false) : Btw [] R := by
  induction R with
  | nil => exact .nil
  | cons x R ih => exact .skip x (h x (by simp)) (ih (fun y hy => h y (by simp [hy])))

theorem zeros_get (m i : Nat) : (zeros m).getD i 0 = 0 := by
  simp only [zeros, List.getD, List.getElem?_replicate]
  split <;> rfl

/-- A frame whose end is not there is none. -/
theorem torn_frame (b : List Int) (a m : Nat) (ha : a < b.length + 7) : okB ((frameB b).take a ++ zeros m) = false := by
  have hfl := frameB_len b
  have hl : ((frameB b).take a).length = a := by rw [List.length_take]; omega
  by_cases h0 : a = 0
  · subst h0
    rw [List.take_zero, List.nil_append]
    unfold okB
    rw [decide_eq_false_iff_not]
    rintro ⟨_, e, _⟩
    rw [zeros_get] at e
    cases e
  · by_cases h1' : a = 1
    · subst h1'
      unfold okB
      rw [decide_eq_false_iff_not]
      rintro ⟨_, _, e, _⟩
      rw [getD_app_right _ _ _ (by omega), zeros_get] at e
      omega
    · unfold okB
      rw [decide_eq_false_iff_not]
      rintro ⟨_, _, _, _, _, e, _⟩
      have e1 : ((frameB b).take a ++ zeros m).getD 1 0 = b.length := by
        rw [getD_app_left _ _ _ (by omega), List.getD, List.getElem?_take, if_pos (by omega)]
        rfl
      rw [e1, Int.toNat_natCast, getD_app_right _ _ _ (by omega), zeros_get] at e
      cases e

theorem scan_cut (R : List Tr) : ∀ (a m : Nat), (∀ x ∈ R, isBytes x.b ∧ 1 ≤ x.b.length ∧ x.b.length ≤ 56) → a ≤ (flatB R).length → Upto Tr.su R a → Btw (scanB ((flatB R).take a ++ zeros m)) R := by
  induction R with
  | nil =>
    intro a m _ ha _
    have : a = 0 := by simpa [flatB] using ha
    subst this
    rw [List.take_zero, List.nil_append, scanB_no]
    · exact .nil
    · have := torn_frame [0] 0 m (by decide)
      rwa [List.take_zero, List.nil_append] at this
  | cons x R ih =>
    intro a m hb ha hu
    obtain ⟨x1, x2, x3⟩ := hb x (by simp)
    have hfl := frameB_len x.b
    rw [flat_cons] at ha ⊢
    rw [List.length_append] at ha
    by_cases hx : (frameB x.b).length ≤ a
    · rw [List.take_append, List.take_of_length_le hx, List.append_assoc, scan_frame _ _ x1 x2 x3]
      refine .take x (ih _ m (fun y hy => hb y (by simp [hy])) (by omega) ?_)
      intro i y hi hy
      have := hu (i + 1) y (by simpa using hi) hy
      rw [List.take_succ_cons, flat_cons, List.length_append] at this
      omega
    · rw [List.take_append_of_le_length (by omega), scanB_no (torn_frame _ _ m (by omega))]
      refine Btw.none (fun y hy => ?_)
      by_cases hs : y.su = true
      · obtain ⟨i, hi⟩ := List.getElem?_of_mem hy
        have := hu i y hi hs
        rw [List.take_succ_cons, flat_cons, List.length_append] at this
        omega
      · simpa using hs

end Go.Proofs.YtafkkehcacdodaaGreat

namespace Go.Proofs.YtafkkehcacdodaaGreat
open Go.RowKit

section
variable {s : St} {k : Nat} {R : List Tr} {c : Nat → Nat}

/-- A record that was not written. -/
theorem SecI.grow (h : SecI s k R c) (x : Tr) (hf : x.fi = false) (hs : x.su = false) (h64 : (flatB (R ++ [x])).length ≤ 64) : SecI s k (R ++ [x]) c := by
  have hc : ∀ i, i ≤ s.since.length → cutC (flatB (R ++ [x])) (c i) = cutC (flatB R) (c i) := fun i hi => by rw [flat_snoc]; exact cut_more _ _ _ (h.tops i hi)
  refine ⟨?_, ?_, h.mono, ?_, ?_, h.skip, h.usu.snoc x (fun e => by rw [hs] at e; cases e), h.ufi.snoc x (fun e => by rw [hf] at e; cases e), h64⟩
  · rw [hc 0 (Nat.zero_le _)]; exact h.sr
  · rw [hc _ (Nat.le_refl _)]; exact h.nw
  · rw [flat_snoc, List.length_append]; have := h.top; omega
  · intro i hi e; rw [hc (i + 1) hi]; exact h.wr i hi e

theorem since_lt (ws : List (Nat × List Int)) (y : Nat × List Int) (i : Nat) (h : i < ws.length) : (ws ++ [y]).getD i (0, []) = ws.getD i (0, []) := by
  simp only [List.getD, List.getElem?_append_left h]
theorem since_eq (ws : List (Nat × List Int)) (y : Nat × List Int) : (ws ++ [y]).getD ws.length (0, []) = y := by simp [List.getD]

/-- A record that was written. -/
theorem SecI.put (h : SecI s k R c) (ho : s.Ok) (hk : k < s.n) (x : Tr) (hs : x.su = false) (h64 : (flatB (R ++ [x])).length ≤ 64) :
    ∃ c', SecI (s.wrote k (cutC (flatB (R ++ [x])) (flatB (R ++ [x])).length)) k (R ++ [x]) c' ∧ c' (s.since.length + 1) = (flatB (R ++ [x])).length := by
  have hc : ∀ i, i ≤ s.since.length → cutC (flatB (R ++ [x])) (c i) = cutC (flatB R) (c i) := fun i hi => by rw [flat_snoc]; exact cut_more _ _ _ (h.tops i hi)
  have hle : (flatB R).length ≤ (flatB (R ++ [x])).length := by rw [flat_snoc, List.length_append]; omega
  have hw := cut_len (flatB (R ++ [x])) _ (Nat.le_refl _) h64
  generalize hF : flatB (R ++ [x]) = F at *
  have hsl : (s.wrote k (cutC F F.length)).since = s.since ++ [(k, cutC F F.length)] := rfl
  obtain ⟨c', hc1, hc2⟩ : ∃ c' : Nat → Nat, (∀ i, i ≤ s.since.length → c' i = c i) ∧ c' (s.since.length + 1) = F.length := ⟨fun i => if i ≤ s.since.length then c i else F.length, fun i hi => by simp [hi], if_neg (by omega)⟩
  refine ⟨c', ⟨?_, ?_, ?_, ?_, ?_, ?_, ?_, ?_, by rw [hF]; exact h64⟩, hc2⟩
  · rw [hc1 0 (Nat.zero_le _), hF, hc 0 (Nat.zero_le _)]; exact h.sr
  · rw [hsl, List.length_append, List.length_singleton, hc2, hF]
    exact sec_splice _ _ k s.n ho.nl hw hk
  · intro i hi
    rw [hsl, List.length_append, List.length_singleton] at hi
    rw [hc1 i (by omega)]
    by_cases e : i < s.since.length
    · rw [hc1 (i + 1) (by omega)]; exact h.mono i e
    · have : i = s.since.length := by omega
      subst this
      rw [hc2]
      exact Nat.le_trans h.top hle
  · rw [hsl, List.length_append, List.length_singleton, hc2, hF]; exact Nat.le_refl _
  · intro i hi e
    rw [hsl, List.length_append, List.length_singleton] at hi
    rw [hsl] at e ⊢
    by_cases hlt : i < s.since.length
    · rw [since_lt _ _ _ hlt] at e ⊢
      rw [hc1 (i + 1) (by omega), hF, hc (i + 1) (by omega)]
      exact h.wr i hlt e
    · have : i = s.since.length := by omega
      subst this
      rw [since_eq, hc2, hF]
  · intro i hi e
    rw [hsl, List.length_append, List.length_singleton] at hi
    rw [hsl] at e
    by_cases hlt : i < s.since.length
    · rw [since_lt _ _ _ hlt] at e
      rw [hc1 (i + 1) (by omega), hc1 i (by omega)]
      exact h.skip i hlt e
    · have : i = s.since.length := by omega
      subst this
      rw [since_eq] at e
      exact absurd rfl e
  · rw [hc1 0 (Nat.zero_le _)]; exact h.usu.snoc x (fun e => by rw [hs] at e; cases e)
  · rw [hsl, List.length_append, List.length_singleton, hc2, ← hF]; exact Upto.all

/-- Another sector is written. -/
theorem SecI.aside (h : SecI s k R c) (ho : s.Ok) (j : Nat) (hj : j < s.n) (hne : k ≠ j) (l : List Int) (hl : l.length = 64) :
    ∃ c', SecI (s.wrote j l) k R c' := by
  have hsl : (s.wrote j l).since = s.since ++ [(j, l)] := rfl
  obtain ⟨c', hc1, hc2⟩ : ∃ c' : Nat → Nat, (∀ i, i ≤ s.since.length → c' i = c i) ∧ c' (s.since.length + 1) = c s.since.length := ⟨fun i => if i ≤ s.since.length then c i else c s.since.length, fun i hi => by simp [hi], if_neg (by omega)⟩
  refine ⟨c', ⟨?_, ?_, ?_, ?_, ?_, ?_, ?_, ?_, h.f64⟩⟩
  · rw [hc1 0 (Nat.zero_le _)]; exact h.sr
  · rw [hsl, List.length_append, List.length_singleton, hc2, ← h.nw]
    exact sec_other _ _ j k s.n ho.nl hj (by omega) hne
  · intro i hi
    rw [hsl, List.length_append, List.length_singleton] at hi
    rw [hc1 i (by omega)]
    by_cases e : i < s.since.length
    · rw [hc1 (i + 1) (by omega)]; exact h.mono i e
    · have : i = s.since.length := by omega
      subst this
      rw [hc2]; exact Nat.le_refl _
  · rw [hsl, List.length_append, List.length_singleton, hc2]; exact h.top
  · intro i hi e
    rw [hsl, List.length_append, List.length_singleton] at hi
    rw [hsl] at e ⊢
    by_cases hlt : i < s.since.length
    · rw [since_lt _ _ _ hlt] at e ⊢
      rw [hc1 (i + 1) (by omega)]
      exact h.wr i hlt e
    · have : i = s.since.length := by omega
      subst this
      rw [since_eq] at e
      exact absurd e.symm hne
  · intro i hi e
    rw [hsl, List.length_append, List.length_singleton] at hi
    rw [hsl] at e
    by_cases hlt : i < s.since.length
    · rw [since_lt _ _ _ hlt] at e
      rw [hc1 (i + 1) (by omega), hc1 i (by omega)]
      exact h.skip i hlt e
    · have : i = s.since.length := by omega
      subst this
      rw [hc2, hc1 _ (Nat.le_refl _)]
  · rw [hc1 0 (Nat.zero_le _)]; exact h.usu
  · rw [hsl, List.length_append, List.length_singleton, hc2]; exact h.ufi

theorem SecI.take (h : SecI s k R c) : SecI s.take k R c := ⟨h.sr, h.nw, h.mono, h.top, h.wr, h.skip, h.usu, h.ufi, h.f64⟩

theorem SecI.settled (h : SecI s k R c) : SecI s.settled k R (fun _ => c s.since.length) := by
  have h0 := h.le s.since.length 0 (by omega)
  rw [Nat.zero_add] at h0
  exact ⟨h.nw, h.nw, fun i hi => Nat.le_refl _, h.top, fun i hi => by simp [St.settled] at hi, fun i hi _ => rfl, h.usu.le h0, h.ufi, h.f64⟩

end

def Tr.sured (x : Tr) : Tr := ⟨x.pl, x.b, x.fi, x.fi⟩

theorem flat_sured (R : List Tr) : flatB (R.map Tr.sured) = flatB R := by
  unfold flatB; rw [List.flatMap_map]; rfl

theorem SecI.surely {s : St} {k : Nat} {R : List Tr} {c : Nat → Nat} (h : SecI s.settled k R c) : SecI s.settled k (R.map Tr.sured) c := by
  have hu : ∀ (f : Tr → Bool) (a : Nat), Upto (fun x => f x.sured) R a → Upto f (R.map Tr.sured) a := by
    intro f a hu i y hi hy
    rw [List.getElem?_map] at hi
    cases hr : R[i]? with
    | none => rw [hr] at hi; cases hi
    | some x =>
      rw [hr] at hi
      simp only [Option.map_some, Option.some.injEq] at hi
      subst hi
      rw [← List.map_take, flat_sured]
      exact hu i x hr hy
  refine ⟨by rw [flat_sured]; exact h.sr, by rw [flat_sured]; exact h.nw, h.mono, by rw [flat_sured]; exact h.top, by rw [flat_sured]; exact h.wr, h.skip, hu _ _ h.ufi, hu _ _ h.ufi, by rw [flat_sured]; exact h.f64⟩

def inSec (G : List Tr) (k : Nat) : List Tr := G.filter fun x => x.pl == k

/-- What holds of a strand on its disk. -/
structure Sv (s : St) (t : Sd) (G : List Tr) : Prop where
  srt : G.Pairwise (fun x y => x.pl ≤ y.pl)
  plc : ∀ x ∈ G, x.pl ≤ t.pos ∧ x.pl < s.n
  bd : ∀ x ∈ G, isBytes x.b ∧ 1 ≤ x.b.length ∧ x.b.length ≤ 56
  sc : ∀ k, k < s.n → ∃ c, SecI s k (inSec G k) c
  hr : t.pos < s.n → sec s.now t.pos = cutC (flatB (inSec G t.pos)) (flatB (inSec G t.pos)).length ∧ (flatB (inSec G t.pos)).length = t.used

theorem inSec_past {s : St} {t : Sd} {G : List Tr} (h : Sv s t G) (k : Nat) (hk : t.pos < k) : inSec G k = [] := by
  unfold inSec
  rw [List.filter_eq_nil_iff]
  intro x hx
  have := (h.plc x hx).1
  simp; omega

theorem cut_nil (a : Nat) (h : a ≤ ([] : List Int).length) : cutC [] a = cutC [] 0 := by
  have : a = 0 := by simpa using h
  rw [this]

theorem Sv.leave {s : St} {t : Sd} {G : List Tr} (h : Sv s t G) : Sv s t.leave G := by
  refine ⟨h.srt, fun x hx => ⟨by have := (h.plc x hx).1; simp [Sd.leave]; omega, (h.plc x hx).2⟩, h.bd, h.sc, fun hp => ?_⟩
  have e := inSec_past h t.leave.pos (by simp [Sd.leave])
  obtain ⟨c, hc⟩ := h.sc t.leave.pos hp
  rw [e] at hc ⊢
  refine ⟨?_, rfl⟩
  rw [hc.nw]
  exact cut_nil _ hc.top

theorem Sv.fit {s : St} {t : Sd} {G : List Tr} (h : Sv s t G) (b : List Int) : Sv s (t.fit b) G := by
  unfold Sd.fit
  split
  · exact h.leave
  · exact h

theorem Sv.new (n : Nat) : Sv (St.new n) ⟨0, 0, []⟩ [] := by
  refine ⟨.nil, (fun x hx => by cases hx), (fun x hx => by cases hx), fun k hk => ⟨fun _ => 0, ?_⟩, fun hp => ?_⟩
  · have hz : sec (zeros (n * 64)) k = zeros 64 := sec_zeros n k hk
    refine ⟨hz, hz, fun i _ => Nat.le_refl _, Nat.zero_le _, fun i hi => by simp [St.new] at hi, fun i _ _ => rfl, fun i x hi => by simp [inSec] at hi, fun i x hi => by simp [inSec] at hi, by simp [inSec, flatB]⟩
  · exact ⟨sec_zeros n 0 hp, rfl⟩

theorem Sv.add {s : St} {t : Sd} {G : List Tr} (h : Sv s t G) (l : List Int) : Sv (s.add l) t G :=
  ⟨h.srt, h.plc, h.bd, fun k hk => by obtain ⟨c, hc⟩ := h.sc k hk; exact ⟨c, hc.sr, hc.nw, hc.mono, hc.top, hc.wr, hc.skip, hc.usu, hc.ufi, hc.f64⟩, h.hr⟩

theorem Sv.took {s : St} {t : Sd} {G : List Tr} (h : Sv s t G) : Sv s.take t G :=
  ⟨h.srt, h.plc, h.bd, fun k hk => by obtain ⟨c, hc⟩ := h.sc k hk; exact ⟨c, hc.take⟩, h.hr⟩

theorem Sv.settled {s : St} {t : Sd} {G : List Tr} (h : Sv s t G) : Sv s.settled t G :=
  ⟨h.srt, h.plc, h.bd, fun k hk => by obtain ⟨c, hc⟩ := h.sc k hk; exact ⟨_, hc.settled⟩, h.hr⟩

theorem inSec_sured (G : List Tr) (k : Nat) : inSec (G.map Tr.sured) k = (inSec G k).map Tr.sured := by
  unfold inSec; rw [List.filter_map]; rfl

theorem Sv.surely {s : St} {t : Sd} {G : List Tr} (h : Sv s.settled t G) : Sv s.settled t (G.map Tr.sured) := by
  refine ⟨?_, ?_, ?_, fun k hk => ?_, fun hp => ?_⟩
  · rw [List.pairwise_map]; exact h.srt
  · intro x hx
    obtain ⟨y, hy, rfl⟩ := List.mem_map.1 hx
    exact h.plc y hy
  · intro x hx
    obtain ⟨y, hy, rfl⟩ := List.mem_map.1 hx
    exact h.bd y hy
  · obtain ⟨c, hc⟩ := h.sc k hk
    rw [inSec_sured]
    exact ⟨c, hc.surely⟩
  · rw [inSec_sured, flat_sured]; exact h.hr hp

def synG (s : St) (G : List Tr) : List Tr := if errC s.out = 0 then G.map Tr.sured else G

theorem done_of_err {c : Int} (h : errC c = 0) : doneB c = true := by
  unfold errC at h
  unfold doneB
  split at h
  · rename_i e; rw [e]; decide
  · cases h

theorem Sv.sync {s : St} {t : Sd} {G : List Tr} (h : Sv s t G) : Sv s.sync (synT s t) (synG s G) := by
  unfold synG synT
  by_cases e : errC s.out = 0
  · have hs : s.sync = s.take.settled := by unfold St.sync; rw [if_pos (done_of_err e)]
    rw [if_pos e, if_neg (by simp [e]), hs]
    exact h.took.settled.surely
  · rw [if_neg e]
    have hs : Sv s.sync t G := by
      unfold St.sync
      split
      · exact h.took.settled
      · exact h.took
    split
    · exact hs.leave
    · exact hs

/-- What is tried by an Append. -/
def appG (s : St) (t : Sd) (b : List Int) (G : List Tr) : List Tr :=
  if frameE b ≠ 0 then G else if s.n ≤ (t.fit b).pos then G else G ++ [⟨(t.fit b).pos, b, decide (errC s.out = 0), false⟩]

theorem inSec_snoc_eq (G : List Tr) (x : Tr) : inSec (G ++ [x]) x.pl = inSec G x.pl ++ [x] := by simp [inSec]
theorem inSec_snoc_ne (G : List Tr) (x : Tr) (k : Nat) (h : k ≠ x.pl) : inSec (G ++ [x]) k = inSec G k := by
  unfold inSec
  rw [List.filter_append, List.filter_cons_of_neg (by simp; exact fun e => h e.symm), List.filter_nil, List.append_nil]

theorem Sv.put {s : St} {t : Sd} {G : List Tr} (h : Sv s t G) (ho : s.Ok) (b : List Int) (hb : isBytes b) (h1 : 1 ≤ b.length) (h2 : b.length ≤ 56) (hp : t.pos < s.n) (hu : t.used + (b.length + 7) ≤ 64) :
    Sv (s.write t.pos (withB (sec s.now t.pos) t.used (frameB b))) (if errC s.out = 0 then t.added b else t.leave) (G ++ [⟨t.pos, b, decide (errC s.out = 0), false⟩]) := by
  obtain ⟨hr1, hr2⟩ := h.hr hp
  obtain ⟨x, hx⟩ : ∃ x : Tr, x = ⟨t.pos, b, decide (errC s.out = 0), false⟩ := ⟨_, rfl⟩
  rw [← hx]
  have hxp : x.pl = t.pos := by rw [hx]
  have hxb : x.b = b := by rw [hx]
  have hxs : x.su = false := by rw [hx]
  have hxf : x.fi = decide (errC s.out = 0) := by rw [hx]
  clear hx
  have hfl := frameB_len b
  have hF : (flatB (inSec G t.pos ++ [x])).length = t.used + (b.length + 7) := by rw [flat_snoc, List.length_append, hr2, hxb, hfl]
  have hW : withB (sec s.now t.pos) t.used (frameB b) = cutC (flatB (inSec G t.pos ++ [x])) (flatB (inSec G t.pos ++ [x])).length := by
    rw [hF]
    unfold withB
    rw [hr1, flat_snoc, hxb]
    unfold cutC
    rw [List.take_of_length_le (Nat.le_refl _), ← hr2, List.take_left, List.take_of_length_le (by rw [List.length_append, hfl]; omega), hfl, Nat.sub_sub]
  have hWl := cut_len (flatB (inSec G t.pos ++ [x])) _ (Nat.le_refl _) (by omega)
  rw [hW]
  -- the rest of what holds
  have srt' : (G ++ [x]).Pairwise (fun x y => x.pl ≤ y.pl) := by
    rw [List.pairwise_append]
    refine ⟨h.srt, List.pairwise_singleton _ _, fun y hy z hz => ?_⟩
    rw [List.mem_singleton] at hz
    subst hz
    rw [hxp]
    exact (h.plc y hy).1
  have plc' : ∀ y ∈ G ++ [x], y.pl ≤ t.pos ∧ y.pl < s.n := by
    intro y hy
    rw [List.mem_append, List.mem_singleton] at hy
    rcases hy with hy | rfl
    · exact h.plc y hy
    · rw [hxp]; exact ⟨Nat.le_refl _, hp⟩
  have bd' : ∀ y ∈ G ++ [x], isBytes y.b ∧ 1 ≤ y.b.length ∧ y.b.length ≤ 56 := by
    intro y hy
    rw [List.mem_append, List.mem_singleton] at hy
    rcases hy with hy | rfl
    · exact h.bd y hy
    · rw [hxb]; exact ⟨hb, h1, h2⟩
  have hin : inSec (G ++ [x]) t.pos = inSec G t.pos ++ [x] := by rw [← hxp]; exact inSec_snoc_eq G x
  have hin2 : ∀ k, k ≠ t.pos → inSec (G ++ [x]) k = inSec G k := fun k hk => inSec_snoc_ne G x k (by rw [hxp]; exact hk)
  obtain ⟨c, hc⟩ := h.sc t.pos hp
  by_cases hd : doneB s.out = true
  · have hs : s.write t.pos (cutC (flatB (inSec G t.pos ++ [x])) (flatB (inSec G t.pos ++ [x])).length) = s.take.wrote t.pos (cutC (flatB (inSec G t.pos ++ [x])) (flatB (inSec G t.pos ++ [x])).length) := by unfold St.write; rw [if_pos hd]
    rw [hs]
    obtain ⟨c', hc', htop⟩ := hc.take.put ho.take hp x hxs (by omega)
    have hsc : ∀ k, k < s.n → ∃ c, SecI (s.take.wrote t.pos (cutC (flatB (inSec G t.pos ++ [x])) (flatB (inSec G t.pos ++ [x])).length)) k (inSec (G ++ [x]) k) c := by
      intro k hk
      by_cases e : k = t.pos
      · rw [e, hin]; exact ⟨c', hc'⟩
      · rw [hin2 k e]
        obtain ⟨ck, hck⟩ := h.sc k hk
        exact hck.take.aside ho.take t.pos hp e _ hWl
    have hA : Sv (s.take.wrote t.pos (cutC (flatB (inSec G t.pos ++ [x])) (flatB (inSec G t.pos ++ [x])).length)) (t.added b) (G ++ [x]) :=
      ⟨srt', plc', bd', hsc, fun _ => by
        show sec _ t.pos = cutC (flatB (inSec (G ++ [x]) t.pos)) (flatB (inSec (G ++ [x]) t.pos)).length ∧ (flatB (inSec (G ++ [x]) t.pos)).length = _
        rw [hin]
        refine ⟨?_, hF⟩
        exact sec_splice _ _ t.pos s.n ho.nl hWl hp⟩
    split
    · exact hA
    · have hL := hA.leave
      exact ⟨hL.srt, hL.plc, hL.bd, hL.sc, hL.hr⟩
  · have hs : s.write t.pos (cutC (flatB (inSec G t.pos ++ [x])) (flatB (inSec G t.pos ++ [x])).length) = s.take := by unfold St.write; rw [if_neg hd]
    have he : ¬ errC s.out = 0 := fun e => hd (done_of_err e)
    rw [hs, if_neg he]
    have hxf' : x.fi = false := by rw [hxf]; simp [he]
    have hsc : ∀ k, k < s.n → ∃ c, SecI s.take k (inSec (G ++ [x]) k) c := by
      intro k hk
      by_cases e : k = t.pos
      · rw [e, hin]; exact ⟨c, hc.take.grow x hxf' hxs (by omega)⟩
      · rw [hin2 k e]
        obtain ⟨ck, hck⟩ := h.sc k hk
        exact ⟨ck, hck.take⟩
    refine ⟨srt', fun y hy => ⟨by have := (plc' y hy).1; simp [Sd.leave]; omega, (plc' y hy).2⟩, bd', hsc, fun hp2 => ?_⟩
    have hp2' : t.pos + 1 < s.n := hp2
    have e : inSec (G ++ [x]) (t.pos + 1) = [] := by
      unfold inSec
      rw [List.filter_eq_nil_iff]
      intro y hy
      have := (plc' y hy).1
      simp; omega
    obtain ⟨c2, hc2⟩ := hsc (t.pos + 1) hp2'
    show sec _ (t.pos + 1) = cutC (flatB (inSec (G ++ [x]) (t.pos + 1))) (flatB (inSec (G ++ [x]) (t.pos + 1))).length ∧ (flatB (inSec (G ++ [x]) (t.pos + 1))).length = 0
    rw [e] at hc2 ⊢
    refine ⟨?_, rfl⟩
    rw [hc2.nw]
    exact cut_nil _ hc2.top

theorem Sv.app {s : St} {t : Sd} {G : List Tr} (h : Sv s t G) (ho : s.Ok) (ht : t.Ok s.n) (b : List Int) (hb : isBytes b) : Sv (appS s t b) (appT s t b) (appG s t b G) := by
  unfold appS appT appG
  by_cases hE : frameE b = 0
  · have hE' : ¬ frameE b ≠ 0 := fun e => e hE
    rw [if_neg hE', if_neg hE', if_neg hE']
    have hl : 1 ≤ b.length ∧ b.length ≤ 56 := by
      unfold frameE at hE
      split at hE
      · cases hE
      · split at hE
        · cases hE
        · omega
    obtain ⟨_, f2, _⟩ := ht.fit b hE
    by_cases hn : s.n ≤ (t.fit b).pos
    · rw [if_pos hn, if_pos hn, if_pos hn]; exact h.fit b
    · rw [if_neg hn, if_neg hn, if_neg hn]
      exact (h.fit b).put ho b hb hl.1 hl.2 (by omega) f2
  · rw [if_pos hE, if_pos hE, if_pos hE]; exact h

theorem below_split (G : List Tr) (k : Nat) : G.Pairwise (fun x y => x.pl ≤ y.pl) → (G.filter fun x => decide (x.pl < k + 1)) = (G.filter fun x => decide (x.pl < k)) ++ inSec G k := by
  induction G with
  | nil => intro _; rfl
  | cons x G ih =>
    intro h
    rw [List.pairwise_cons] at h
    have hI := ih h.2
    unfold inSec at hI ⊢
    by_cases h1 : x.pl < k
    · rw [List.filter_cons_of_pos (by simp; omega), List.filter_cons_of_pos (by simp; omega), List.filter_cons_of_neg (by simp; omega), hI, List.cons_append]
    · have hn : (G.filter fun x => decide (x.pl < k)) = [] := by
        rw [List.filter_eq_nil_iff]
        intro y hy
        have := h.1 y hy
        simp; omega
      rw [hn, List.nil_append] at hI
      have hx : (List.filter (fun x : Tr => decide (x.pl < k)) (x :: G)) = [] := by rw [List.filter_cons_of_neg (by simp; omega), hn]
      rw [hx, List.nil_append]
      by_cases h2 : x.pl = k
      · rw [List.filter_cons_of_pos (by simp; omega), List.filter_cons_of_pos (by simp; omega), hI]
      · rw [List.filter_cons_of_neg (by simp; omega), List.filter_cons_of_neg (by simp; omega), hI]

theorem Sv.open {s : St} {t : Sd} {G : List Tr} (h : Sv s t G) (ho : s.Ok) (ch : List Int) : ∀ k, k ≤ s.n → Btw ((openK (s.crash ch).now k).recs.map Prod.snd) (G.filter fun x => decide (x.pl < k)) := by
  intro k
  induction k with
  | zero =>
    intro _
    have : (G.filter fun x => decide (x.pl < 0)) = [] := by rw [List.filter_eq_nil_iff]; intro x _; simp
    rw [this]
    exact .nil
  | succ k ih =>
    intro hk
    rw [below_split G k h.srt]
    have hrec : (openK (s.crash ch).now (k + 1)).recs.map Prod.snd = (openK (s.crash ch).now k).recs.map Prod.snd ++ scanB (sec (s.crash ch).now k) := by
      simp only [openK, List.map_append, List.map_map]
      congr 1
      exact List.map_id _
    rw [hrec]
    refine (ih (by omega)).append ?_
    obtain ⟨c, hc⟩ := h.sc k (by omega)
    obtain ⟨a, ha, h0, h1⟩ := hc.torn ho (by omega) ch s.since.length (Nat.le_refl _)
    have hnow : sec (s.crash ch).now k = cutC (flatB (inSec G k)) a := ha
    rw [hnow]
    unfold cutC
    exact scan_cut _ a _ (fun x hx => h.bd x (List.mem_filter.1 hx).1) (Nat.le_trans h1 hc.top) (hc.usu.le h0)

/-- What is found behind a crash. -/
theorem Sv.found {s : St} {t : Sd} {G : List Tr} (h : Sv s t G) (ho : s.Ok) (ch : List Int) : Btw (bodies (openT (s.crash ch))) G := by
  have := h.open ho ch s.n (Nat.le_refl _)
  have e : (G.filter fun x => decide (x.pl < s.n)) = G := by
    rw [List.filter_eq_self]
    intro x hx
    have := (h.plc x hx).2
    simpa using this
  rwa [e] at this

end Go.Proofs.YtafkkehcacdodaaGreat

namespace Go.Proofs.YtafkkehcacdodaaGreat
open Go.RowKit
attribute [local go_sem ↓] Go.wp_at_zero Go.wp_at_succ

end Go.Proofs.YtafkkehcacdodaaGreat

namespace Go.Proofs.YtafkkehcacdodaaGreat
open Go.RowKit
attribute [local go_sem ↓] Go.wp_at_zero Go.wp_at_succ

theorem infoBool : (Tryz.prog.info? 4).map (fun i => (i.zero, i.size, i.bytes)) = some (some (.bool false), 1, 1) := by kernel_rfl

/-- A row of slices, wherever they lie. -/
structure Lsx (w : World) (v : Value) (vs : List Value) (ls : List (List Int)) : Prop where
  win : Win w 1 v ls.length vs
  bts : ∀ i, i < ls.length → Bts w (vs.getD i undef) (ls.getD i [])

theorem Lst.lsx {w : World} {base : Nat} {v : Value} {vs : List Value} {ls : List (List Int)} (h : Lst w base v vs ls) : Lsx w v vs ls := ⟨h.win, h.bts⟩

theorem Lsx.later {w w' : World} {v : Value} {vs : List Value} {ls : List (List Int)} (h : Lsx w v vs ls) (hb : Below w.heap.size w w') : Lsx w' v vs ls := ⟨h.win.later hb, fun i hi => (h.bts i hi).later hb⟩

/-- A window's cells, one each. -/
theorem win_read {w : World} {v : Value} {n : Nat} {vs : List Value} (h : Win w 1 v n vs) (hne : 0 < n) : ∃ B O c, v = .slice (some ⟨B, O, none⟩) n c ∧ n ≤ c ∧ c ≤ maxLen ∧ ∀ i, i < n → w.cell? ⟨B, O + i, none⟩ = some (vs.getD i undef) := by
  rcases h.2 with ⟨_, h0⟩ | ⟨B, O, c, cs, e, hb, h2, h3, h4, h5⟩
  · omega
  refine ⟨B, O, c, e, h2, h3, fun i hi => ?_⟩
  have hvl : vs.length = n := by have := h.1; omega
  exact hb.range O (n * 1) i (vs.getD i undef) (by rw [h5]; simp [List.getD, List.getElem?_eq_getElem (show i < vs.length by omega)])

theorem made_blk (w : World) (n : Nat) : Blk (w.alloc (.cells (madeCells #[Value.bool false] n) 4)) w.heap.size ((List.replicate n false).map Value.bool) := by
  have := blk_new w (madeCells #[Value.bool false] n) 4
  rwa [toList_madeCells_one, ← List.map_replicate] at this

theorem bool_cell {w : World} {g : Nat} {l : List Bool} (h : Blk w g (l.map Value.bool)) (j : Nat) (hj : j < l.length) : w.cell? ⟨g, j, none⟩ = some (.bool (l.getD j false)) := by
  rw [h.cell]; simp [List.getD, List.getElem?_eq_getElem hj]

theorem bool_set {w : World} {g : Nat} {l : List Bool} (h : Blk w g (l.map Value.bool)) (j : Nat) (b : Bool) : Blk (w.setCell ⟨g, j, none⟩ (.bool b)) g ((l.set j b).map Value.bool) := by
  rw [List.map_set]; exact h.set j _

theorem Btw.snoc {h : List (List Int)} {R : List Tr} {x : Tr} : ∀ {S : List Tr}, Btw h S → S = R ++ [x] → (x.su = false ∧ Btw h R) ∨ ∃ h', h = h' ++ [x.b] ∧ Btw h' R := by
  intro S hS
  induction hS generalizing R with
  | nil => intro e; cases R <;> cases e
  | @skip h S y hy hS ih =>
    intro e
    cases R with
    | nil =>
      simp only [List.nil_append, List.cons.injEq] at e
      obtain ⟨rfl, rfl⟩ := e
      cases hS
      exact .inl ⟨hy, .nil⟩
    | cons z R =>
      simp only [List.cons_append, List.cons.injEq] at e
      obtain ⟨rfl, rfl⟩ := e
      rcases ih rfl with ⟨h1, h2⟩ | ⟨h', h1, h2⟩
      · exact .inl ⟨h1, .skip _ hy h2⟩
      · exact .inr ⟨h', h1, .skip _ hy h2⟩
  | @take h S y hS ih =>
    intro e
    cases R with
    | nil =>
      simp only [List.nil_append, List.cons.injEq] at e
      obtain ⟨rfl, rfl⟩ := e
      cases hS
      exact .inr ⟨[], rfl, .nil⟩
    | cons z R =>
      simp only [List.cons_append, List.cons.injEq] at e
      obtain ⟨rfl, rfl⟩ := e
      rcases ih rfl with ⟨h1, h2⟩ | ⟨h', h1, h2⟩
      · exact .inl ⟨h1, .take _ h2⟩
      · exact .inr ⟨y.b :: h', by rw [h1]; rfl, .take _ h2⟩

/-- What the row can tells. -/
def Can (hs : List (List Int)) (R : List Tr) (j : Nat) (C : List Bool) : Prop := ∀ k, k ≤ hs.length → Btw (hs.take k) (R.take j) → C.getD k false = true

theorem can_step {hs : List (List Int)} {R : List Tr} {j : Nat} {C N : List Bool} {x : Tr} (hC : Can hs R j C) (hj : R[j]? = some x)
    (h1 : ∀ m, m ≤ hs.length → x.su = false → C.getD m false = true → N.getD m false = true)
    (h2 : ∀ m, m < hs.length → hs.getD m [] = x.b → C.getD m false = true → N.getD (m + 1) false = true) : Can hs R (j + 1) N := by
  intro k hk hb
  obtain ⟨hjl, hjx⟩ := List.getElem?_eq_some_iff.1 hj
  rw [List.take_succ_eq_append_getElem hjl, hjx] at hb
  rcases hb.snoc rfl with ⟨e1, e2⟩ | ⟨h', e1, e2⟩
  · exact h1 k hk e1 (hC k hk e2)
  · have hl := congrArg List.length e1
    rw [List.length_take, List.length_append, List.length_singleton] at hl
    obtain ⟨m, rfl⟩ : ∃ m, k = m + 1 := ⟨k - 1, by omega⟩
    have hm : m < hs.length := by omega
    rw [List.take_succ_eq_append_getElem hm] at e1
    have e3 := List.append_inj e1 (by rw [List.length_take]; omega)
    have e4 : hs[m] = x.b := by simpa using e3.2
    refine h2 m hm (by simp [List.getD, List.getElem?_eq_getElem hm, e4]) (hC m (by omega) ?_)
    rw [e3.1]; exact e2

theorem can_start (hs : List (List Int)) (R : List Tr) (C : List Bool) (h : C.getD 0 false = true) : Can hs R 0 C := by
  intro k hk hb
  rw [List.take_zero] at hb
  have hn : hs.take k = [] := by
    generalize hs.take k = l at *
    cases hb; rfl
  have := congrArg List.length hn
  rw [List.length_take, List.length_nil] at this
  have : k = 0 := by omega
  rw [this]; exact h

theorem set_getD (l : List Bool) (i j : Nat) (hi : i < l.length) : (l.set i true).getD j false = if i = j then true else l.getD j false := by
  simp only [List.getD, List.getElem?_set]
  by_cases e : i = j
  · subst e; simp [hi]
  · simp [e]

theorem set_up (l : List Bool) (i j : Nat) (h : l.getD j false = true) : (l.set i true).getD j false = true := by
  by_cases hi : i < l.length
  · rw [set_getD l i j hi]; split
    · rfl
    · exact h
  · rw [List.set_eq_of_length_le (by omega)]; exact h

/-- What the next row tells, when k of the row can have been gone through. -/
structure Nxb (hs : List (List Int)) (x : Tr) (C N : List Bool) (k : Nat) : Prop where
  a : ∀ m, m < k → m ≤ hs.length → x.su = false → C.getD m false = true → N.getD m false = true
  b : ∀ m, m < k → m < hs.length → hs.getD m [] = x.b → C.getD m false = true → N.getD (m + 1) false = true

theorem Nxb.zero (hs : List (List Int)) (x : Tr) (C N : List Bool) : Nxb hs x C N 0 := ⟨fun m h => by omega, fun m h => by omega⟩

theorem Nxb.no {hs : List (List Int)} {x : Tr} {C N : List Bool} {k : Nat} (h : Nxb hs x C N k) (hc : C.getD k false = false) : Nxb hs x C N (k + 1) := by
  refine ⟨fun m hm hl hs' hcm => ?_, fun m hm hl he hcm => ?_⟩
  · by_cases e : m = k
    · rw [e, hc] at hcm; cases hcm
    · exact h.a m (by omega) hl hs' hcm
  · by_cases e : m = k
    · rw [e, hc] at hcm; cases hcm
    · exact h.b m (by omega) hl he hcm

/-- One more of the row can, where it tells. -/
theorem Nxb.yes {hs : List (List Int)} {x : Tr} {C N N' : List Bool} {k : Nat} (h : Nxb hs x C N k) (hup : ∀ m, N.getD m false = true → N'.getD m false = true) (h1 : x.su = false → N'.getD k false = true)
    (h2 : k < hs.length → hs.getD k [] = x.b → N'.getD (k + 1) false = true) : Nxb hs x C N' (k + 1) := by
  refine ⟨fun m hm hl hs' hcm => ?_, fun m hm hl he hcm => ?_⟩
  · by_cases e : m = k
    · rw [e]; exact h1 hs'
    · exact hup _ (h.a m (by omega) hl hs' hcm)
  · by_cases e : m = k
    · rw [e] at hl he ⊢; exact h2 hl he
    · exact hup _ (h.b m (by omega) hl he hcm)

end Go.Proofs.YtafkkehcacdodaaGreat

namespace Go.Proofs.YtafkkehcacdodaaGreat
open Go.RowKit

/-- Where a strand of the document lies: itself, its row of bodies, its row of counts. -/
structure TL where
  T : Nat
  lv : Value
  vs : List Value
  I : Nat

/-- A strand of the document over the disk at M, in memory that is o's. -/
structure MS (w : World) (tag : Nat → Nat) (base o M n pos used : Nat) (bs : List (List Int)) (cs : List Int) (q : TL) : Prop where
  bT : Blk w q.T [.pointer (some ⟨M, 0, none⟩), .int .i64 pos, .int .i64 used, q.lv, .slice (some ⟨q.I, 0, none⟩) n n]
  wL : Win w 1 q.lv bs.length q.vs
  bt : ∀ i, i < bs.length → Bts w (q.vs.getD i undef) (bs.getD i [])
  rI : Blk w q.I (cs.map (Value.int .i64))
  cl : cs.length = n
  tT : tag q.T = 16 * o + 7 ∧ base ≤ q.T
  tL : ∀ g, q.lv.ownBlock = some g → tag g = 16 * o + 8 ∧ base ≤ g
  tB : ∀ i, i < bs.length → ∀ g, (q.vs.getD i undef).ownBlock = some g → tag g = 16 * o + 9 ∧ base ≤ g ∧ g < w.heap.size
  tI : tag q.I = 16 * o + 10 ∧ base ≤ q.I

section
variable {w w' : World} {tag tag' : Nat → Nat} {base o o' o2 M n pos used : Nat} {bs : List (List Int)} {cs : List Int} {q : TL}

theorem MS.keep (h : MS w tag base o M n pos used bs cs q) (hk : ∀ k, k < w.heap.size → tag k / 16 = o → w'.heap[k]? = w.heap[k]?) (ht : ∀ k, k < w.heap.size → tag' k = tag k) (hs : w.heap.size ≤ w'.heap.size) : MS w' tag' base o M n pos used bs cs q :=
  ⟨h.bT.same (hk _ h.bT.lt (by have := h.tT.1; omega)), h.wL.same (fun g hg => hk g (h.wL.lt g hg) (by have := (h.tL g hg).1; omega)),
    fun i hi => bts_same (h.bt i hi) (fun g hg hlt => hk g hlt (by have := (h.tB i hi g hg).1; omega)), h.rI.same (hk _ h.rI.lt (by have := h.tI.1; omega)), h.cl,
    ⟨by rw [ht _ h.bT.lt]; exact h.tT.1, h.tT.2⟩, fun g hg => ⟨by rw [ht _ (h.wL.lt g hg)]; exact (h.tL g hg).1, (h.tL g hg).2⟩,
    fun i hi g hg => ⟨by rw [ht _ (h.tB i hi g hg).2.2]; exact (h.tB i hi g hg).1, (h.tB i hi g hg).2.1, Nat.lt_of_lt_of_le (h.tB i hi g hg).2.2 hs⟩, ⟨by rw [ht _ h.rI.lt]; exact h.tI.1, h.tI.2⟩⟩

theorem MS.later (h : MS w tag base o M n pos used bs cs q) (hb : Below w.heap.size w w') : MS w' tag base o M n pos used bs cs q :=
  h.keep (fun k hk _ => hb.block k hk) (fun _ _ => rfl) hb.size

theorem MS.other (h : MS w tag base o M n pos used bs cs q) (hb : Step tag tag' base o' w w') (ho : o ≠ o') : MS w' tag' base o M n pos used bs cs q :=
  h.keep (fun k hk ht => hb.kept k hk (by rw [ht]; exact ho)) hb.tags hb.below.size

theorem MS.other2 (h : MS w tag base o M n pos used bs cs q) (hb : Step2 tag tag' base o' o2 w w') (h1 : o ≠ o') (h2 : o ≠ o2) : MS w' tag' base o M n pos used bs cs q :=
  h.keep (fun k hk ht => hb.kept k hk (by rw [ht]; exact h1) (by rw [ht]; exact h2)) hb.tags hb.below.size

/-- Behind a store into the strand's own block. -/
theorem MS.placed (h : MS w tag base o M n pos used bs cs q) (pos' used' : Nat) (hb : Blk w' q.T [.pointer (some ⟨M, 0, none⟩), .int .i64 pos', .int .i64 used', q.lv, .slice (some ⟨q.I, 0, none⟩) n n])
    (hk : ∀ k, k < w.heap.size → k ≠ q.T → w'.heap[k]? = w.heap[k]?) (hs : w.heap.size ≤ w'.heap.size) : MS w' tag base o M n pos' used' bs cs q := by
  have hne : ∀ {g T : Nat}, g < w.heap.size → tag g = T → T ≠ 16 * o + 7 → w'.heap[g]? = w.heap[g]? := fun {g T} hg hT hn => hk g hg (fun e => hn (by rw [← hT, e]; exact h.tT.1))
  exact ⟨hb, h.wL.same (fun g hg => hne (h.wL.lt g hg) (h.tL g hg).1 (by omega)), fun i hi => bts_same (h.bt i hi) (fun g hg hlt => hne hlt (h.tB i hi g hg).1 (by omega)), h.rI.same (hne h.rI.lt h.tI.1 (by omega)), h.cl, h.tT, h.tL,
    fun i hi g hg => ⟨(h.tB i hi g hg).1, (h.tB i hi g hg).2.1, Nat.lt_of_lt_of_le (h.tB i hi g hg).2.2 hs⟩, h.tI⟩

theorem blk_t1 {w : World} {T : Nat} {a b c d e b' : Value} (h : Blk w T [a, b, c, d, e]) : Blk (w.setCell ⟨T, 1, none⟩ b') T [a, b', c, d, e] := by
  have := h.set 1 b'
  simpa using this
theorem blk_t2 {w : World} {T : Nat} {a b c d e c' : Value} (h : Blk w T [a, b, c, d, e]) : Blk (w.setCell ⟨T, 2, none⟩ c') T [a, b, c', d, e] := by
  have := h.set 2 c'
  simpa using this

theorem MS.at (h : MS w tag base o M n pos used bs cs q) (p : Nat) : MS (w.setCell ⟨q.T, 1, none⟩ (.int .i64 p)) tag base o M n p used bs cs q ∧ Step tag tag base o w (w.setCell ⟨q.T, 1, none⟩ (.int .i64 p)) :=
  ⟨h.placed p used (blk_t1 h.bT) (fun k _ hk => heap_setCell_other _ _ k _ hk) (by simp [World.setCell]), step_set tag base o w h.tT.2 (by have := h.tT.1; omega) 1 _⟩

theorem MS.byte (h : MS w tag base o M n pos used bs cs q) (u : Nat) : MS (w.setCell ⟨q.T, 2, none⟩ (.int .i64 u)) tag base o M n pos u bs cs q ∧ Step tag tag base o w (w.setCell ⟨q.T, 2, none⟩ (.int .i64 u)) :=
  ⟨h.placed pos u (blk_t2 h.bT) (fun k _ hk => heap_setCell_other _ _ k _ hk) (by simp [World.setCell]), step_set tag base o w h.tT.2 (by have := h.tT.1; omega) 2 _⟩

/-- Behind a store into the row of counts. -/
theorem MS.count (h : MS w tag base o M n pos used bs cs q) (j : Nat) (c : Int) : MS (w.setCell ⟨q.I, j, none⟩ (.int .i64 c)) tag base o M n pos used bs (cs.set j c) q ∧ Step tag tag base o w (w.setCell ⟨q.I, j, none⟩ (.int .i64 c)) := by
  have hne : ∀ {g T : Nat}, tag g = T → T ≠ 16 * o + 10 → (w.setCell ⟨q.I, j, none⟩ (.int .i64 c)).heap[g]? = w.heap[g]? := fun {g T} hT hn => heap_setCell_other w ⟨q.I, j, none⟩ g _ (fun e => hn (by rw [← hT, e]; exact h.tI.1))
  refine ⟨⟨h.bT.same (hne h.tT.1 (by omega)), h.wL.same (fun g hg => hne (h.tL g hg).1 (by omega)), fun i hi => bts_same (h.bt i hi) (fun g hg hlt => hne (h.tB i hi g hg).1 (by omega)), ?_, by rw [List.length_set]; exact h.cl, h.tT, h.tL,
    fun i hi g hg => ⟨(h.tB i hi g hg).1, (h.tB i hi g hg).2.1, by simp [World.setCell]; exact (h.tB i hi g hg).2.2⟩, h.tI⟩, step_set tag base o w h.tI.2 (by have := h.tI.1; omega) j _⟩
  rw [List.map_set]; exact h.rI.set j _

/-- Behind one body more. -/
theorem MS.pushed {wx w3 : World} (h : MS w tag base o M n pos used bs cs q) (hbase : base ≤ w.heap.size) (hx : Below w.heap.size w wx) (x : List Int) (u v' : Value) (hu : Bts w u x) (htu : ∀ g, u.ownBlock = some g → tag g = 16 * o + 9 ∧ base ≤ g ∧ g < w.heap.size)
    (hg : wx.grownBy w3 q.lv.ownBlock) (ha : v'.ownBlock = q.lv.ownBlock ∨ v'.ownBlock = some wx.heap.size) (hw : Win w3 1 v' (bs.length + 1) (q.vs ++ [u])) :
    ∃ tag', MS (w3.setCell ⟨q.T, 3, none⟩ v') tag' base o M n pos used (bs ++ [x]) cs ⟨q.T, v', q.vs ++ [u], q.I⟩ ∧ Step tag tag' base o w (w3.setCell ⟨q.T, 3, none⟩ v') ∧ ∀ g, g < w.heap.size → tag g = 16 * o + 9 → (w3.setCell ⟨q.T, 3, none⟩ v').heap[g]? = w.heap[g]? := by
  have hsx := hx.size
  have hs3 := hg.size
  have hkeep : ∀ g, g < w.heap.size → q.lv.ownBlock ≠ some g → g ≠ q.T → (w3.setCell ⟨q.T, 3, none⟩ v').heap[g]? = w.heap[g]? := fun g h1 h2 h3 => by
    rw [heap_setCell_other _ _ g _ h3, hg.block g (by omega) (fun e => h2 e.symm), hx.block g h1]
  have hSr : q.lv.ownBlock ≠ some q.T := fun e => by have := (h.tL _ e).1; rw [h.tT.1] at this; omega
  have hkt : ∀ {g T : Nat}, g < w.heap.size → tag g = T → T ≠ 16 * o + 7 → T ≠ 16 * o + 8 → (w3.setCell ⟨q.T, 3, none⟩ v').heap[g]? = w.heap[g]? := fun {g T} h1 hT h7 h8 =>
    hkeep g h1 (fun e => h8 (by rw [← hT]; exact (h.tL g e).1)) (fun e => h7 (by rw [← hT, e]; exact h.tT.1))
  have hvS : v'.ownBlock ≠ some q.T := by
    rcases ha with e | e
    · rw [e]; exact hSr
    · rw [e]; intro e'; simp at e'; have := h.bT.lt; omega
  have htag : ∀ g, g < w.heap.size → retag tag v' (16 * o + 8) g = tag g := fun g hlt => by
    unfold retag
    split
    · rename_i e
      rcases ha with e' | e'
      · rw [e'] at e; exact (h.tL g e).1.symm
      · rw [e'] at e; simp at e; omega
    · rfl
  have hvl : q.vs.length = bs.length := by have := h.wL.1; omega
  refine ⟨retag tag v' (16 * o + 8), ⟨?_, ?_, ?_, h.rI.same (hkt h.rI.lt h.tI.1 (by omega) (by omega)), h.cl, ?_, ?_, ?_, ?_⟩, ⟨?_, htag, ?_⟩, fun g h1 h2 => hkt h1 h2 (by omega) (by omega)⟩
  · have hb : Blk w3 q.T _ := h.bT.same ((hg.block q.T (by have := h.bT.lt; omega) (fun e => hSr e.symm)).trans (hx.block q.T h.bT.lt))
    simpa using hb.set 3 v'
  · rw [List.length_append]
    exact hw.same (fun g hgv => heap_setCell_other _ _ g _ (fun e => hvS (by rw [hgv, show g = q.T from e])))
  · intro i hi
    rw [List.length_append, List.length_singleton] at hi
    by_cases hil : i < bs.length
    · rw [getD_snoc_lt _ _ _ _ (by rw [hvl]; exact hil), getD_snoc_lt _ _ _ _ hil]
      exact bts_same (h.bt i hil) (fun g hgv hlt => hkt hlt (h.tB i hil g hgv).1 (by omega) (by omega))
    · have : i = bs.length := by omega
      subst this
      rw [getD_snoc_eq]
      show Bts _ ((q.vs ++ [u]).getD bs.length undef) x
      rw [← hvl, getD_snoc_eq]
      exact bts_same hu (fun g hgv hlt => hkt hlt (htu g hgv).1 (by omega) (by omega))
  · exact ⟨by rw [htag _ h.bT.lt]; exact h.tT.1, h.tT.2⟩
  · intro g hgv
    refine ⟨by simp [retag, hgv], ?_⟩
    rcases ha with e | e
    · rw [e] at hgv; exact (h.tL g hgv).2
    · rw [e] at hgv; simp at hgv; omega
  · intro i hi g hgv
    rw [List.length_append, List.length_singleton] at hi
    have hsz : (w3.setCell ⟨q.T, 3, none⟩ v').heap.size = w3.heap.size := by simp [World.setCell]
    by_cases hil : i < bs.length
    · rw [getD_snoc_lt _ _ _ _ (by rw [hvl]; exact hil)] at hgv
      obtain ⟨e1, e2, e3⟩ := h.tB i hil g hgv
      exact ⟨by rw [htag g e3]; exact e1, e2, by omega⟩
    · have : i = bs.length := by omega
      subst this
      have hgv' : ((q.vs ++ [u]).getD bs.length undef).ownBlock = some g := hgv
      rw [← hvl, getD_snoc_eq] at hgv'
      obtain ⟨e1, e2, e3⟩ := htu g hgv'
      exact ⟨by rw [htag g e3]; exact e1, e2, by omega⟩
  · exact ⟨by rw [htag _ h.rI.lt]; exact h.tI.1, h.tI.2⟩
  · refine Below.setCell ?_ h.tT.2 _
    exact (hx.mono hbase).grown hg (by omega) (fun g hgv => (h.tL g hgv).2)
  · intro g hlt hne
    exact hkeep g hlt (fun e => hne (by rw [(h.tL g e).1]; omega)) (fun e => hne (by rw [e, h.tT.1]; omega))

theorem MS.t0 (h : MS w tag base o M n pos used bs cs q) : w.cell? ⟨q.T, 0, none⟩ = some (.pointer (some ⟨M, 0, none⟩)) := h.bT.cell 0
theorem MS.t1 (h : MS w tag base o M n pos used bs cs q) : w.cell? ⟨q.T, 1, none⟩ = some (.int .i64 pos) := h.bT.cell 1
theorem MS.t2 (h : MS w tag base o M n pos used bs cs q) : w.cell? ⟨q.T, 2, none⟩ = some (.int .i64 used) := h.bT.cell 2
theorem MS.t3 (h : MS w tag base o M n pos used bs cs q) : w.cell? ⟨q.T, 3, none⟩ = some q.lv := h.bT.cell 3
theorem MS.t4 (h : MS w tag base o M n pos used bs cs q) : w.cell? ⟨q.T, 4, none⟩ = some (.slice (some ⟨q.I, 0, none⟩) n n) := h.bT.cell 4
theorem MS.fT (h : MS w tag base o M n pos used bs cs q) (j : Nat) : w.frozen? ⟨q.T, j, none⟩ = false := h.bT.frozen j
theorem MS.fI (h : MS w tag base o M n pos used bs cs q) (j : Nat) : w.frozen? ⟨q.I, j, none⟩ = false := h.rI.frozen j
theorem MS.i (h : MS w tag base o M n pos used bs cs q) (j : Nat) (hj : j < n) : w.cell? ⟨q.I, j, none⟩ = some (.int .i64 (cs.getD j 0)) := by
  rw [h.rI.cell]; simp [List.getD, List.getElem?_eq_getElem (show j < cs.length by rw [h.cl]; exact hj)]
theorem MS.lsx (h : MS w tag base o M n pos used bs cs q) : Lsx w q.lv q.vs bs := ⟨h.wL, h.bt⟩

end

/-- How many records each sector has. -/
def cntL (rs : List (Nat × List Int)) (n : Nat) : List Int := (List.range n).map fun k => ((rs.countP fun x => x.1 == k : Nat) : Int)

theorem cntL_len (rs : List (Nat × List Int)) (n : Nat) : (cntL rs n).length = n := by simp [cntL]

theorem cntL_get (rs : List (Nat × List Int)) (n k : Nat) (h : k < n) : (cntL rs n).getD k 0 = (rs.countP fun x => x.1 == k : Nat) := by
  simp [cntL, List.getD, h]

theorem cntL_snoc (rs : List (Nat × List Int)) (n k : Nat) (x : List Int) (h : k < n) : cntL (rs ++ [(k, x)]) n = (cntL rs n).set k ((cntL rs n).getD k 0 + 1) := by
  apply List.ext_getElem
  · rw [List.length_set, cntL_len, cntL_len]
  · intro i h1 h2
    rw [cntL_len] at h1
    rw [List.getElem_set]
    have e1 : (cntL (rs ++ [(k, x)]) n)[i]'(by rw [cntL_len]; exact h1) = ((rs ++ [(k, x)]).countP fun x => x.1 == i : Nat) := by simp [cntL]
    have e2 : (cntL rs n)[i]'(by rw [cntL_len]; exact h1) = (rs.countP fun x => x.1 == i : Nat) := by simp [cntL]
    rw [e1, e2, List.countP_append, List.countP_singleton]
    by_cases e : k = i
    · subst e; rw [if_pos rfl, cntL_get _ _ _ h]; simp
    · rw [if_neg e]; simp [e]

/-- The document's strand in the numbers of the program's. -/
abbrev MSt (w : World) (tag : Nat → Nat) (base o M n : Nat) (t : Sd) (q : TL) : Prop := MS w tag base o M n t.pos t.used (bodies t) (cntL t.recs n) q

end Go.Proofs.YtafkkehcacdodaaGreat

namespace Go.Proofs.YtafkkehcacdodaaGreat
open Go.RowKit
attribute [local go_sem ↓] Go.wp_at_zero Go.wp_at_succ

set_option maxHeartbeats 1000000 in
theorem rblank_ok (w : World) (v : Value) (l : List Int) (h : Bts w v l) :
    Calls Tryz.prog 74 #[v] w fun e w' => e = .returned (.bool (allz l)) ∧ w' = w := by
  obtain ⟨a, cap, b, off, rfl, hl, hm, hbb, ha, hs⟩ := h
  unfold maxLen at hm
  go_enter Tryz.func74, Tryz.ntmps74
  go_wp2
  go_loopg [3] l.length (fun gk i wr => ∃ k : Nat, k + gk = l.length ∧ i = .int .i64 k ∧ allz (l.take k) = true ∧ w = wr)
  case atStart => exact ⟨0, by omega, rfl, by simp [allz], rfl⟩
  case round =>
    obtain ⟨k, hk, rfl, hz, rfl⟩ := hrel
    by_cases hlt : k < l.length
    case neg =>
      have hge : ¬ (k : Int) < (l.length : Int) := by omega
      have HZ : Hid (allz l = true) := by
        rw [List.take_of_length_le (by omega)] at hz
        exact hz
      clear hz
      go_wp2
      go_ret
      exact ⟨ret_bool HZ.out.symm, rfl⟩
    have hltI : (k : Int) < (l.length : Int) := by omega
    rcases ha with rfl | hnil
    case inr => rw [hnil] at hlt; simp at hlt
    have hc := hs k hlt
    by_cases h0 : l.getD k 0 = 0
    · have HT : Hid (allz (l.take (k + 1)) = true) := by
        show _ = _
        rw [allz_take hlt hz, h0]; rfl
      rw [h0] at hc
      clear hz
      go_wp2
      go_roundg (l.length - (k + 1))
      case rel => exact ⟨k + 1, by omega, by go_num, HT.out, rfl⟩
      case measure => omega
    · have HZ : Hid (allz l = false) := allz_no hlt h0
      have h0' : (l.getD k 0 != 0) = true := by simpa using h0
      generalize l.getD k 0 = c at *
      clear hz
      go_wp2
      go_ret
      exact ⟨ret_bool HZ.out.symm, rfl⟩

set_option maxHeartbeats 1000000 in
theorem rnext_ok (w : World) (tag : Nat → Nat) (base o M n pos used : Nat) (bs : List (List Int)) (cs : List Int) (q : TL) (h : MS w tag base o M n pos used bs cs q) (hp : pos ≤ 1000000) :
    Calls Tryz.prog 82 #[.pointer (some ⟨q.T, 0, none⟩)] w fun e w' => e = .returned (.tuple #[]) ∧ MS w' tag base o M n (pos + 1) 0 bs cs q ∧ Step tag tag base o w w' := by
  have h1 := h.t1
  have f1 := h.fT 1
  have f2 := h.fT 2
  have h2 := h.t2
  obtain ⟨g1, g2⟩ := h.at (pos + 1)
  obtain ⟨g3, g4⟩ := g1.byte 0
  have HG : Hid (MS ((w.setCell ⟨q.T, 1, none⟩ (.int .i64 ((pos + 1 : Nat) : Int))).setCell ⟨q.T, 2, none⟩ (.int .i64 ((0 : Nat) : Int))) tag base o M n (pos + 1) 0 bs cs q ∧ Step tag tag base o w ((w.setCell ⟨q.T, 1, none⟩ (.int .i64 ((pos + 1 : Nat) : Int))).setCell ⟨q.T, 2, none⟩ (.int .i64 ((0 : Nat) : Int)))) := ⟨g3, g2.trans g4⟩
  clear h g1 g2 g3 g4
  go_enter Tryz.func82, Tryz.ntmps82
  go_wp2
  refine bodyPost_end (results_none rfl _ _ _) rfl ?_
  exact ⟨rfl, HG.out⟩

set_option maxHeartbeats 1000000 in
theorem rsync8_ok (w : World) (tag : Nat → Nat) (base o o' : Nat) (ho : o ≠ o') (s : St) (p : ML) (h : MD w tag base o s p) (t : Sd) (q : TL) (hq : MSt w tag base o' p.M s.n t q) (hp : t.pos ≤ 1000000)
    (hops : s.ops ≤ 1000000) (hout : s.outs.length ≤ 1000000) :
    Calls Tryz.prog 40 #[.pointer (some ⟨q.T, 0, none⟩)] w fun e w' => e = .returned (.int .i64 (errC s.out)) ∧ ∃ p', p'.M = p.M ∧ MD w' tag base o s.sync p' ∧ MSt w' tag base o' p.M s.n (synT s t) q ∧ Step2 tag tag base o o' w w' := by
  have h0 := hq.t0
  have HS := rsync_ok w tag base o s p h hops hout
  have HQ : Hid (MSt w tag base o' p.M s.n t q) := hq
  clear hq h
  rcases err_cases s.out with hE | hE
  · have HT : Hid (synT s t = t) := by show _ = _; unfold synT; rw [hE]; simp
    rw [hE] at HS ⊢
    clear hE
    go_enter Tryz.func40, Tryz.ntmps40
    go_wp2_with fail
    refine HS.mono ?_
    rintro e w1 ⟨rfl, p1, hM, hP, hS⟩
    have hq1 := HQ.out.other hS (fun e => ho e.symm)
    have g2 := hq1.t2
    have HR : Hid (MD w1 tag base o s.sync p1 ∧ MSt w1 tag base o' p.M s.n t q ∧ Step tag tag base o w w1) := ⟨hP, hq1, hS⟩
    clear hP hS hq1 HS
    go_wp2
    go_ret
    exact ⟨rfl, p1, hM, HR.out.1, by rw [HT.out]; exact HR.out.2.1, HR.out.2.2.two1 o'⟩
  · rw [hE] at HS ⊢
    by_cases hu : 0 < t.used
    · have HT : Hid (synT s t = t.leave) := by show _ = _; unfold synT; rw [hE]; simp [hu]
      have huI : ¬ (t.used : Int) = 0 := by omega
      clear hE
      go_enter Tryz.func40, Tryz.ntmps40
      go_wp2_with fail
      refine HS.mono ?_
      rintro e w1 ⟨rfl, p1, hM, hP, hS⟩
      have hq1 := HQ.out.other hS (fun e => ho e.symm)
      have g2 := hq1.t2
      have HN := rnext_ok w1 tag base o' p.M s.n t.pos t.used (bodies t) (cntL t.recs s.n) q hq1 hp
      have HR : Hid (MD w1 tag base o s.sync p1 ∧ Step tag tag base o w w1) := ⟨hP, hS⟩
      have huI2 : ((t.used : Int) != 0) = true := by simpa using huI
      clear hP hS hq1 HS
      go_wp2_with fail
      refine HN.mono ?_
      rintro e w2 ⟨rfl, hq2, hS2⟩
      have HR2 : Hid (MSt w2 tag base o' p.M s.n t.leave q ∧ Step tag tag base o' w1 w2) := ⟨hq2, hS2⟩
      clear HN hq2 hS2
      go_wp2
      go_ret
      exact ⟨rfl, p1, hM, HR.out.1.other HR2.out.2 ho, by rw [HT.out]; exact HR2.out.1, (HR.out.2.two1 o').trans (HR2.out.2.two2 o)⟩
    · have hu0 : t.used = 0 := by omega
      have HT : Hid (synT s t = t) := by show _ = _; unfold synT; rw [hu0]; simp
      clear hE
      go_enter Tryz.func40, Tryz.ntmps40
      go_wp2_with fail
      refine HS.mono ?_
      rintro e w1 ⟨rfl, p1, hM, hP, hS⟩
      have hq1 := HQ.out.other hS (fun e => ho e.symm)
      have g2 := hq1.t2
      rw [hu0] at g2
      have HR : Hid (MD w1 tag base o s.sync p1 ∧ MSt w1 tag base o' p.M s.n t q ∧ Step tag tag base o w w1) := ⟨hP, hq1, hS⟩
      clear hP hS hq1 HS
      go_wp2
      go_ret
      exact ⟨rfl, p1, hM, HR.out.1, by rw [HT.out]; exact HR.out.2.1, HR.out.2.2.two1 o'⟩

end Go.Proofs.YtafkkehcacdodaaGreat

namespace Go.Proofs.YtafkkehcacdodaaGreat
open Go.RowKit
attribute [local go_sem ↓] Go.wp_at_zero Go.wp_at_succ

theorem MS.low {w : World} {tag : Nat → Nat} {base base' o M n pos used : Nat} {bs : List (List Int)} {cs : List Int} {q : TL} (h : MS w tag base o M n pos used bs cs q) (hb : base' ≤ base) : MS w tag base' o M n pos used bs cs q :=
  ⟨h.bT, h.wL, h.bt, h.rI, h.cl, ⟨h.tT.1, Nat.le_trans hb h.tT.2⟩, fun g hg => ⟨(h.tL g hg).1, Nat.le_trans hb (h.tL g hg).2⟩, fun i hi g hg => ⟨(h.tB i hi g hg).1, Nat.le_trans hb (h.tB i hi g hg).2.1, (h.tB i hi g hg).2.2⟩, ⟨h.tI.1, Nat.le_trans hb h.tI.2⟩⟩

theorem cntL_nil (n : Nat) : cntL [] n = List.replicate n 0 := by
  apply List.ext_getElem
  · simp [cntL]
  · intro i h1 h2; simp [cntL]

theorem cntL_many (rs : List (Nat × List Int)) (n k : Nat) (ls : List (List Int)) (hr : ∀ x ∈ rs, x.1 < k) : cntL (rs ++ ls.map fun b => (k, b)) n = (cntL rs n).set k (ls.length : Int) := by
  apply List.ext_getElem
  · rw [List.length_set, cntL_len, cntL_len]
  · intro i h1 h2
    rw [cntL_len] at h1
    rw [List.getElem_set]
    have e1 : (cntL (rs ++ ls.map fun b => (k, b)) n)[i]'(by rw [cntL_len]; exact h1) = ((rs ++ ls.map fun b => (k, b)).countP fun x => x.1 == i : Nat) := by simp [cntL]
    have e2 : (cntL rs n)[i]'(by rw [cntL_len]; exact h1) = (rs.countP fun x => x.1 == i : Nat) := by simp [cntL]
    rw [e1, e2, List.countP_append, List.countP_map]
    by_cases e : k = i
    · subst e
      rw [if_pos rfl]
      have h0 : (rs.countP fun x => x.1 == k) = 0 := by
        rw [List.countP_eq_zero]
        intro x hx
        have := hr x hx
        simp; omega
      have h3 : List.countP ((fun x : Nat × List Int => x.1 == k) ∘ fun b => (k, b)) ls = ls.length := by
        rw [List.countP_eq_length]; intro b _; simp
      rw [h0, h3]; simp
    · rw [if_neg e]
      have h3 : List.countP ((fun x : Nat × List Int => x.1 == i) ∘ fun b => (k, b)) ls = 0 := by
        rw [List.countP_eq_zero]; intro b _; simp [e]
      rw [h3]; simp

theorem scan_blank {l : List Int} (h : allz l = true) : scanB l = [] := by
  refine scanB_no ?_
  unfold okB
  rw [decide_eq_false_iff_not]
  rintro ⟨h1, h2, _⟩
  have : l.getD 0 0 = 0 := by
    unfold allz at h
    rw [List.all_eq_true] at h
    have := h l[0] (List.getElem_mem (by omega))
    simp [List.getD, List.getElem?_eq_getElem (show 0 < l.length by omega)]
    simpa using this
  omega

theorem openK_blank (now : List Int) (k : Nat) (h : allz (sec now k) = true) : (openK now (k + 1)).pos = (openK now k).pos ∧ (openK now (k + 1)).recs = (openK now k).recs := by
  simp [openK, h, scan_blank h]

theorem openK_full (now : List Int) (k : Nat) (h : allz (sec now k) = false) : (openK now (k + 1)).pos = k + 1 ∧ (openK now (k + 1)).recs = (openK now k).recs ++ (scanB (sec now k)).map fun b => (k, b) := by
  simp [openK, h]

/-- The strand while Open goes on. -/
def OpM (w : World) (tag : Nat → Nat) (o' M n : Nat) (now : List Int) (k : Nat) (wr : World) : Prop :=
  ∃ tag1 lv vs, MS wr tag1 w.heap.size o' M n (openK now k).pos 0 (recB now k) (cntL (openK now k).recs n) ⟨w.heap.size + 1, lv, vs, w.heap.size⟩ ∧ (∀ j, j < w.heap.size → tag1 j = tag j) ∧ Below w.heap.size w wr

theorem opm_start (w : World) (tag : Nat → Nat) (o' M n : Nat) (now : List Int) : OpM w tag o' M n now 0 ((w.alloc (.cells (madeCells #[Value.int .i64 0] n) 3)).alloc (.cells #[.pointer (some ⟨M, 0, none⟩), .int .i64 0, .int .i64 0, .slice none 0 0, .slice (some ⟨w.heap.size, 0, none⟩) n n] 92)) := by
  have b0 := blk_new w (madeCells #[Value.int .i64 0] n) 3
  have b1 := blk_new (w.alloc (.cells (madeCells #[Value.int .i64 0] n) 3)) #[.pointer (some ⟨M, 0, none⟩), .int .i64 0, .int .i64 0, .slice none 0 0, .slice (some ⟨w.heap.size, 0, none⟩) n n] 92
  have hB := below_alloc (w.alloc (.cells (madeCells #[Value.int .i64 0] n) 3)) (.cells #[.pointer (some ⟨M, 0, none⟩), .int .i64 0, .int .i64 0, .slice none 0 0, .slice (some ⟨w.heap.size, 0, none⟩) n n] 92)
  have b0' := b0.later hB
  rw [toList_madeCells_one, show List.replicate n (Value.int .i64 0) = (cntL [] n).map (Value.int .i64) by rw [cntL_nil, List.map_replicate]] at b0'
  rw [World.size_alloc] at b1
  refine ⟨fun j => if j < w.heap.size then tag j else if j = w.heap.size then 16 * o' + 10 else 16 * o' + 7, .slice none 0 0, [], ⟨b1, win_nil _ _, fun i hi => by simp [recB, openK] at hi, b0', cntL_len _ _, ⟨?_, by simp⟩, fun g hg => by simp [Value.ownBlock] at hg, fun i hi => by simp [recB, openK] at hi, ⟨?_, by simp⟩⟩, fun j hj => by simp [hj], ?_⟩
  · show (if w.heap.size + 1 < w.heap.size then _ else if w.heap.size + 1 = w.heap.size then _ else _) = _
    rw [if_neg (by omega), if_neg (by omega)]
  · show (if w.heap.size < w.heap.size then _ else if w.heap.size = w.heap.size then _ else _) = _
    rw [if_neg (by omega), if_pos rfl]
  · exact (below_alloc w _).trans (hB.mono (by simp))

set_option maxHeartbeats 16000000 in
theorem ropen_ok (w : World) (tag : Nat → Nat) (base o o' : Nat) (s : St) (p : ML) (h : MD w tag base o s p) (hbase : base ≤ w.heap.size) :
    Calls Tryz.prog 36 #[.pointer (some ⟨p.M, 0, none⟩)] w fun e w' => ∃ q tag', e = .returned (.tuple #[.pointer (some ⟨q.T, 0, none⟩), .int .i64 0]) ∧ MSt w' tag' base o' p.M s.n (openT s) q ∧ (∀ k, k < w.heap.size → tag' k = tag k) ∧ Below w.heap.size w w' := by
  obtain ⟨i3, hi3, hz30, hz31, hz32⟩ := info_parts info3
  obtain ⟨i0, hi, hz0, hz1, hz2⟩ := info_parts infoB
  have HMD : Hid (MD w tag base o s p) := h
  have hn2 := h.ok.n2
  have hln := h.ok.nl
  have hlb := h.ok.nb
  have h0 := h.m0
  have hMlt := h.bM.lt
  have HI0 : Hid (OpM w tag o' p.M s.n s.now 0 _) := opm_start w tag o' p.M s.n s.now
  clear h
  go_enter Tryz.func36, Tryz.ntmps36
  go_wp2_with (at_make; refine wpList_make_row _ rfl _ _ 55 rfl 3 i3 (.int .i64 0) Tryz.underlying55 hi3 hz30 hz31 rfl .i64 .i64 s.n rfl rfl (by rw [hz32]; omega) (by omega) ?_)
  go_loopg [5] s.n (fun gk i wr => ∃ k : Nat, k + gk = s.n ∧ i = .int .i64 k ∧ OpM w tag o' p.M s.n s.now k wr)
  case atStart => exact ⟨0, by omega, rfl, HI0.out⟩
  case round =>
    obtain ⟨w0, rfl⟩ : ∃ w0, w0 = wr := ⟨wr, rfl⟩
    obtain ⟨k, hk, rfl, tag1, lv, vs, hQ, hT1, hB1⟩ := hrel
    have h01 := cell_later hB1 h0
    by_cases hlt : k < s.n
    case neg =>
      have hge : ¬ (k : Int) < (s.n : Int) := by omega
      have hke : k = s.n := by omega
      have HR : Hid (MSt w0 tag1 base o' p.M s.n (openT s) ⟨w.heap.size + 1, lv, vs, w.heap.size⟩) := by
        rw [hke] at hQ
        have hq := hQ.low hbase
        have hu : (openT s).used = 0 := by
          unfold openT
          cases s.n <;> rfl
        show MS _ _ _ _ _ _ _ _ _ _ _
        rw [hu]
        exact hq
      clear hQ
      go_wp2
      go_ret2
      exact ⟨(⟨w.heap.size + 1, lv, vs, w.heap.size⟩ : TL), rfl, tag1, HR.out, hT1, hB1⟩
    have hltI : (k : Int) < (s.n : Int) := by omega
    have HRd := rread_ok w0 tag base o s p (HMD.out.later hB1) k hlt
    have HSL : Hid ((sec s.now k).length = 64) := sec_len hln hlt
    have hsb := sec_bytes hlb k
    have hokk := openK_ok s.now s.n hln hlb k (by omega)
    have HQ : Hid (MS w0 tag1 w.heap.size o' p.M s.n (openK s.now k).pos 0 (recB s.now k) (cntL (openK s.now k).recs s.n) ⟨w.heap.size + 1, lv, vs, w.heap.size⟩) := hQ
    have HB1 : Hid (Below w.heap.size w w0) := hB1
    have HT1 : Hid (∀ j, j < w.heap.size → tag1 j = tag j) := hT1
    clear hQ hB1 hT1
    go_wp2_with fail
    refine HRd.mono ?_
    rintro e w2 ⟨v2, rfl, hO2, hB2⟩
    have hb2 := hO2.bts hsb
    have HNw : Hid (∀ g, v2.ownBlock = some g → w0.heap.size ≤ g) := fun g hg => (hO2.lt g hg).1
    have HBl := rblank_ok w2 _ _ hb2
    have HB2 : Hid (Below w0.heap.size w0 w2) := hB2
    have HBt : Hid (Bts w2 v2 (sec s.now k)) := hb2
    obtain ⟨va, vc, rfl, _⟩ := bts_src hb2
    clear HRd hO2 hb2 hB2
    go_wp2_with fail
    refine HBl.mono ?_
    rintro e w2' ⟨rfl, hx⟩
    rw [hx]
    clear hx HBl
    by_cases hz : allz (sec s.now k) = true
    · obtain ⟨z1, z2⟩ := openK_blank s.now k hz
      have HR : Hid (OpM w tag o' p.M s.n s.now (k + 1) w2) := by
        refine ⟨tag1, lv, vs, ?_, HT1.out, HB1.out.trans (HB2.out.mono HB1.out.size)⟩
        have e : recB s.now (k + 1) = recB s.now k := by unfold recB; rw [z2]
        rw [z1, z2, e]
        exact HQ.out.later HB2.out
      rw [hz]
      go_wp2
      go_roundg (s.n - (k + 1))
      case rel => exact ⟨k + 1, by omega, by go_num, HR.out⟩
      case measure => omega
    have hz' : allz (sec s.now k) = false := by simpa using hz
    obtain ⟨z1, z2⟩ := openK_full s.now k hz'
    have Z : Hid ((openK s.now (k + 1)).pos = k + 1 ∧ cntL (openK s.now (k + 1)).recs s.n = (cntL (openK s.now k).recs s.n).set k ((scanB (sec s.now k)).length : Int) ∧ recB s.now (k + 1) = recB s.now k ++ scanB (sec s.now k)) :=
      ⟨z1, by rw [z2]; exact cntL_many _ _ _ _ (fun x hx => (hokk.2.2.1 x hx).1), recB_succ _ _⟩
    have hQ2 := HQ.out.later HB2.out
    obtain ⟨hQ3, hS3⟩ := hQ2.at (k + 1)
    have f1 := hQ2.fT 1
    have g1 := hQ2.t1
    have hT0 : w.heap.size + 1 < w0.heap.size := HQ.out.bT.lt
    have hB3 : Below w.heap.size w (w2.setCell ⟨w.heap.size + 1, 1, none⟩ (.int .i64 ((k + 1 : Nat) : Int))) := (HB1.out.trans (HB2.out.mono HB1.out.size)).setCell (by show w.heap.size ≤ w.heap.size + 1; omega) _
    have hb3 : Bts (w2.setCell ⟨w.heap.size + 1, 1, none⟩ (.int .i64 ((k + 1 : Nat) : Int))) (.slice va (sec s.now k).length vc) (sec s.now k) := bts_same HBt.out (fun g hg _ => heap_setCell_other _ _ g _ (fun e => by have := HNw.out g hg; have e' : g = w.heap.size + 1 := e; omega))
    obtain ⟨w3, hw3⟩ : ∃ w3, w3 = w2.setCell ⟨w.heap.size + 1, 1, none⟩ (.int .i64 ((k + 1 : Nat) : Int)) := ⟨_, rfl⟩
    rw [← hw3] at hB3 hb3
    have hQ3' : MS w3 tag1 w.heap.size o' p.M s.n (k + 1) 0 (recB s.now k) (cntL (openK s.now k).recs s.n) ⟨w.heap.size + 1, lv, vs, w.heap.size⟩ := by rw [hw3]; exact hQ3
    have HW3 : Hid (w2.setCell ⟨w.heap.size + 1, 1, none⟩ (.int .i64 ((k : Int) + 1)) = w3) := by show _ = _; rw [hw3]; rfl
    have HSc := rscan_ok w3 _ (sec s.now k) hb3 (by rw [HSL.out]; omega)
    have hls8 := scanB_len 64 (sec s.now k) (by rw [HSL.out]; omega)
    rw [HSL.out] at hls8
    have hlsb := scanB_all 64 (sec s.now k) (by rw [HSL.out]; omega) hsb
    have hrk : (recB s.now k).length ≤ 40000 := by rw [recB_len]; omega
    rw [hz']
    clear hQ2 hQ3 hS3 z1 z2 hz hz' hw3 hokk
    go_wp2_with fail
    rw [HW3.out]
    refine HSc.mono ?_
    rintro e w4 ⟨lv4, vs4, rfl, hL4, hB4⟩
    have hT3 : tag1 = tag1 := rfl
    have hsz3 := hB3.size
    obtain ⟨A, LB, LO, lc, rfl, hlc, hlm, hA, hG⟩ := got_of_lst hL4 tag1 (16 * o' + 9) w.heap.size hsz3
    have hS4 := step_over tag1 w.heap.size o' (16 * o' + 9) hsz3 hB4
    have hQ4 : MS w4 (tagOver tag1 w3.heap.size (16 * o' + 9)) w.heap.size o' p.M s.n (k + 1) 0 (recB s.now k) (cntL (openK s.now k).recs s.n) ⟨w.heap.size + 1, lv, vs, w.heap.size⟩ := hQ3'.keep (fun j hj _ => hB4.block j hj) hS4.tags hB4.size
    have HT4 : Hid (∀ j, j < w.heap.size → tagOver tag1 w3.heap.size (16 * o' + 9) j = tag j) := fun j hj => by rw [tagOver_lt _ _ _ _ (by omega)]; exact HT1.out j hj
    have hB04 : Below w.heap.size w w4 := hB3.trans (hB4.mono hsz3)
    generalize tagOver tag1 w3.heap.size (16 * o' + 9) = tag4 at *
    clear hL4 hS4 hQ3' hB4 hB3 hb3 HSc hT3 HW3
    unfold maxLen at hlm
    -- the count
    obtain ⟨hQ5, hS5⟩ := hQ4.count k ((scanB (sec s.now k)).length : Int)
    have d4 := hQ4.t4
    have di := hQ4.i k hlt
    have dfi := hQ4.fI k
    have hG5 : Got (w4.setCell ⟨w.heap.size, k, none⟩ (.int .i64 ((scanB (sec s.now k)).length : Int))) tag4 (16 * o' + 9) w.heap.size LB LO vs4 (scanB (sec s.now k)) :=
      hG.keep (fun g _ hg => heap_setCell_other _ _ g _ (fun e => by have h1 : tag4 w.heap.size = 16 * o' + 10 := hQ4.tI.1; have e' : g = w.heap.size := e; rw [e', h1] at hg; omega)) (fun _ _ => rfl) (by simp [World.setCell])
    have hB05 : Below w.heap.size w (w4.setCell ⟨w.heap.size, k, none⟩ (.int .i64 ((scanB (sec s.now k)).length : Int))) := hB04.setCell (Nat.le_refl _) _
    obtain ⟨w5, hw5⟩ : ∃ w5, w5 = w4.setCell ⟨w.heap.size, k, none⟩ (.int .i64 ((scanB (sec s.now k)).length : Int)) := ⟨_, rfl⟩
    rw [← hw5] at hQ5 hG5 hB05
    have HW5 : Hid (w4.setCell ⟨w.heap.size, k, none⟩ (.int .i64 ((scanB (sec s.now k)).length : Int)) = w5) := hw5.symm
    have HQ5 : Hid (MS w5 tag4 w.heap.size o' p.M s.n (k + 1) 0 (recB s.now k) ((cntL (openK s.now k).recs s.n).set k ((scanB (sec s.now k)).length : Int)) ⟨w.heap.size + 1, lv, vs, w.heap.size⟩) := hQ5
    generalize (cntL (openK s.now k).recs s.n).getD k 0 = c0 at *
    clear hQ4 hQ5 hS5 hG hw5 hB04
    go_wp2_with fail
    rw [HW5.out]
    have hZ := Z.out
    generalize hLS : scanB (sec s.now k) = ls at *
    have HLS : Hid (scanB (sec s.now k) = ls) := hLS
    clear hLS
    generalize recB s.now k = rb at *
    generalize (cntL (openK s.now k).recs s.n).set k (ls.length : Int) = cs at *
    go_loopg [9] ls.length (fun gk i wr => ∃ (j : Nat) (tag6 : Nat → Nat) (lv6 : Value) (vs6 : List Value), j + gk = ls.length ∧ i = .int .i64 j ∧ MS wr tag6 w.heap.size o' p.M s.n (k + 1) 0 (rb ++ ls.take j) cs ⟨w.heap.size + 1, lv6, vs6, w.heap.size⟩ ∧ Step tag4 tag6 w.heap.size o' w5 wr ∧ Got wr tag6 (16 * o' + 9) w.heap.size LB LO vs4 ls)
    case atStart => exact ⟨0, tag4, lv, vs, by omega, rfl, by rw [List.take_zero, List.append_nil]; exact HQ5.out, Step.refl _ _ _ _, hG5⟩
    case round =>
      obtain ⟨w6, rfl⟩ : ∃ w6, w6 = wr := ⟨wr, rfl⟩
      obtain ⟨j, tag6, lv6, vs6, hj, rfl, hQ6, hS6, hG6⟩ := hrel
      by_cases hjl : j < ls.length
      case neg =>
        have hjge : ¬ (j : Int) < (ls.length : Int) := by omega
        have HR : Hid (OpM w tag o' p.M s.n s.now (k + 1) w6) := by
          refine ⟨tag6, lv6, vs6, ?_, fun j' hj' => by rw [hS6.tags j' (Nat.lt_of_lt_of_le hj' hB05.size)]; exact HT4.out j' hj', hB05.trans hS6.below⟩
          rw [Z.out.1, Z.out.2.1, Z.out.2.2]
          rw [List.take_of_length_le (by omega)] at hQ6
          exact hQ6
        clear hQ6 hG6 hS6
        go_wp2
        go_roundg (s.n - (k + 1))
        case rel => exact ⟨k + 1, by omega, by go_num, HR.out⟩
        case measure => omega
      have hjlI : (j : Int) < (ls.length : Int) := by omega
      rcases hA with rfl | hnil
      case inr => rw [hnil] at hjl; simp at hjl
      have hcel := hG6.cell j hjl
      have hbj := hG6.bt j hjl
      have htj := hG6.tE j hjl
      have HTk : Hid (ls.take (j + 1) = ls.take j ++ [ls.getD j []]) := by
        show _ = _
        rw [List.take_succ_eq_append_getElem hjl]; simp [List.getD, List.getElem?_eq_getElem hjl]
      generalize vs4.getD j undef = u at *
      generalize hxx : ls.getD j [] = x at *
      clear hxx
      obtain ⟨ua, uc, huv, _⟩ := bts_src hbj
      subst huv
      have d3 : w6.cell? ⟨w.heap.size + 1, 3, none⟩ = some lv6 := hQ6.t3
      have f3 : w6.frozen? ⟨w.heap.size + 1, 3, none⟩ = false := hQ6.fT 3
      obtain ⟨ra, rc, hrv0⟩ := win_shape hQ6.wL
      have hrv : lv6 = .slice ra (rb ++ ls.take j).length rc := hrv0
      clear hrv0
      have hrl : (rb ++ ls.take j).length ≤ 41000 := by rw [List.length_append, List.length_take]; omega
      have hbw := Nat.le_trans hB05.size hS6.below.size
      have HAP : Hid (∀ v' w8, (w6.alloc (.cells #[.slice ua x.length uc] 39)).drew.grownBy w8 lv6.ownBlock → (v'.ownBlock = lv6.ownBlock ∨ v'.ownBlock = some (w6.alloc (.cells #[.slice ua x.length uc] 39)).drew.heap.size) →
          Win w8 1 v' ((rb ++ ls.take j).length + 1) (vs6 ++ [.slice ua x.length uc]) →
          (∃ tag9, MS (w8.setCell ⟨w.heap.size + 1, 3, none⟩ v') tag9 w.heap.size o' p.M s.n (k + 1) 0 (rb ++ ls.take (j + 1)) cs ⟨w.heap.size + 1, v', vs6 ++ [.slice ua x.length uc], w.heap.size⟩ ∧ Step tag4 tag9 w.heap.size o' w5 (w8.setCell ⟨w.heap.size + 1, 3, none⟩ v') ∧ Got (w8.setCell ⟨w.heap.size + 1, 3, none⟩ v') tag9 (16 * o' + 9) w.heap.size LB LO vs4 ls) ∧
          w8.cell? ⟨w.heap.size + 1, 3, none⟩ = some lv6 ∧ w8.frozen? ⟨w.heap.size + 1, 3, none⟩ = false) := by
        intro v' w8 hg ha hw
        have hBx : Below w6.heap.size w6 (w6.alloc (.cells #[.slice ua x.length uc] 39)).drew := (below_alloc w6 _).drew
        obtain ⟨tag9, e1, e2, e3⟩ := hQ6.pushed hbw hBx x _ v' hbj htj hg ha hw
        have hsx := hBx.size
        have hT6 : w.heap.size + 1 < w6.heap.size := hQ6.bT.lt
        have hne : lv6.ownBlock ≠ some (w.heap.size + 1) := fun e => by have a := (hQ6.tL _ e).1; have b : tag6 (w.heap.size + 1) = 16 * o' + 7 := hQ6.tT.1; rw [b] at a; omega
        have hbl : Blk w8 (w.heap.size + 1) _ := hQ6.bT.same ((hg.block (w.heap.size + 1) (by omega) (fun e => hne e.symm)).trans (hBx.block (w.heap.size + 1) (by omega)))
        refine ⟨⟨tag9, ?_, hS6.trans e2, ?_⟩, hbl.cell 3, hbl.frozen 3⟩
        · rw [HTk.out, ← List.append_assoc]; exact e1
        · exact hG6.keep (fun g' hg' ht' => e3 g' hg' ht') e2.tags e2.below.size
      have HWn : Hid (Win w6 1 lv6 (rb ++ ls.take j).length vs6) := hQ6.wL
      have hT6 : w.heap.size + 1 < w6.heap.size := hQ6.bT.lt
      rw [hrv] at d3 HAP HWn
      generalize (rb ++ ls.take j).length = rn at *
      clear hrv hQ6 hS6 hG6 hbj htj hZ
      go_wp2
      go_region_law ((refine step_win_append rfl (.tmp 61) (.tmp 66) 79 rfl 39 i0 (.slice none 0 0) 1 24 Tryz.underlying79 hi hz0 hz1 hz2 rfl (by decide) (.slice ra rn rc) rn vs6 (by rfl) (by exact HWn.out.later (below_alloc w6 _).drew) ⟨w6.heap.size, 0, none⟩ 1 1 [.slice ua x.length uc] (by rfl) rfl (by exact news_new w6 #[.slice ua x.length uc] 39) (by intro u hu; simp at hu; subst hu; rfl) (by unfold maxLen; omega) (by omega) ?_; intro v' w8 hwin hgrow hat; obtain ⟨va', vc', hvv⟩ := win_shape hwin; subst hvv; obtain ⟨hAP, g4, g5⟩ := HAP.out _ w8 hgrow hat hwin))
      all_goals
        go_wp2
        go_roundg (ls.length - (j + 1))
        case rel =>
          obtain ⟨tag9, e1, e2, e3⟩ := hAP
          exact ⟨j + 1, tag9, _, _, by omega, by go_num, e1, e2, e3⟩
        case measure => omega

end Go.Proofs.YtafkkehcacdodaaGreat

namespace Go.Proofs.YtafkkehcacdodaaGreat
open Go.RowKit
attribute [local go_sem ↓] Go.wp_at_zero Go.wp_at_succ

theorem enters_copy : ∀ (args : Array Value) (w : World), (callFunc 105 args).run Tryz.prog w = .ok (.enter 105 args) w := enters_of Tryz.func105 (by kernel_rfl) rfl

theorem copy_bts (w : World) (v : Value) (l : List Int) (h : Bts w v l) (hl : l.length ≤ 140737488351232) : Calls Tryz.prog 105 #[v] w fun e w' => ∃ v, e = .returned v ∧ Owns w' w.heap.size v l ∧ Below w.heap.size w w' := by
  obtain ⟨a, cap, b, off, rfl, h1, h2, h3, h4, h5⟩ := h
  exact copy_any a b off l.length cap l w h1 rfl h4 h5 hl

theorem rwrite_okI (w : World) (tag : Nat → Nat) (base o : Nat) (s : St) (p : ML) (h : MD w tag base o s p) (hbase : base ≤ w.heap.size) (k : Nat) (hk : k < s.n) (v : Value) (l : List Int) (hv : Bts w v l) (hl : l.length = 64)
    (hvo : ∀ g, v.ownBlock = some g → tag g / 16 ≠ o) (hops : s.ops ≤ 1000000) (hout : s.outs.length ≤ 1000000) (hsin : s.since.length ≤ 1000000) :
    Calls Tryz.prog 104 #[.pointer (some ⟨p.M, 0, none⟩), .int .i64 k, v] w fun e w' => e = .returned (.int .i64 (errC s.out)) ∧ ∃ p' tag', p'.M = p.M ∧ MD w' tag' base o (s.write k l) p' ∧ Step tag tag' base o w w' := by
  have hok : wOk s (k : Int) l = true := by unfold wOk hasB; simp; omega
  have := rwrite_any w tag base o s p h hbase (k : Int) v l hv hvo hops hout hsin p.M rfl
  unfold wE wS at this
  rw [if_pos hok, if_pos hok, Int.toNat_natCast] at this
  exact this

theorem withB_get (sc f : List Int) (used i : Nat) (hs : sc.length = 64) (hu : used + f.length ≤ 64) : (withB sc used f).getD i 0 = if i < used then sc.getD i 0 else if i < used + f.length then f.getD (i - used) 0 else 0 := by
  have h1 : (sc.take used).length = used := by rw [List.length_take]; omega
  unfold withB
  by_cases a : i < used
  · rw [if_pos a, getD_app_left _ _ _ (by rw [List.length_append, h1]; omega), getD_app_left _ _ _ (by rw [h1]; exact a)]
    simp [List.getD, a]
  · rw [if_neg a]
    by_cases c : i < used + f.length
    · rw [if_pos c, getD_app_left _ _ _ (by rw [List.length_append, h1]; omega), getD_app_right _ _ _ (by rw [h1]; omega), h1]
    · rw [if_neg c, getD_app_right _ _ _ (by rw [List.length_append, h1]; omega)]
      unfold zeros
      simp [List.getD, List.getElem?_replicate]
      split <;> rfl

/-- Behind the frame, and a place that was left: what the document's Append goes on with. -/
structure RMd8 (w w2 : World) (tag tag2 : Nat → Nat) (base o o' : Nat) (s : St) (p : ML) (t1 : Sd) (q : TL) (v : Value) (b : List Int) (vf : Value) : Prop where
  d : MD w2 tag2 base o s p
  s : MSt w2 tag2 base o' p.M s.n t1 q
  v : Held w2 tag2 v b
  f : Held w2 tag2 vf (frameB b)
  st : Step2 tag tag2 base o o' w w2

theorem MD.clip {w w' : World} {tag : Nat → Nat} {base o : Nat} {s : St} {p : ML} (h : MD w tag base o s p) (hb : Below w.heap.size w w') : MD w' (Go.Proofs.YtafkkehcacdodaaGreat.clip tag w.heap.size) base o s p :=
  h.keep (fun k hk _ => hb.block k hk) (fun k hk => clip_lt tag _ k hk)

theorem MS.clip {w w' : World} {tag : Nat → Nat} {base o M n pos used : Nat} {bs : List (List Int)} {cs : List Int} {q : TL} (h : MS w tag base o M n pos used bs cs q) (hb : Below w.heap.size w w') : MS w' (Go.Proofs.YtafkkehcacdodaaGreat.clip tag w.heap.size) base o M n pos used bs cs q :=
  h.keep (fun k hk _ => hb.block k hk) (fun k hk => clip_lt tag _ k hk) hb.size

section
variable {w w2 w3 : World} {tag tag2 : Nat → Nat} {base o o' : Nat} {s : St} {p : ML} {t1 : Sd} {q : TL} {v : Value} {b : List Int} {vf : Value}

theorem RMd8.clip (h : RMd8 w w2 tag tag2 base o o' s p t1 q v b vf) (hb : Below w2.heap.size w2 w3) (hbase : base ≤ w2.heap.size) : RMd8 w w3 tag (Go.Proofs.YtafkkehcacdodaaGreat.clip tag2 w2.heap.size) base o o' s p t1 q v b vf :=
  ⟨h.d.clip hb, h.s.clip hb, h.v.alloc hb, h.f.alloc hb, h.st.trans ((step_clip tag2 base o hbase hb).two1 o')⟩

theorem RMd8.later (h : RMd8 w w2 tag tag2 base o o' s p t1 q v b vf) (hb : Below w2.heap.size w2 w3) (hbase : base ≤ w2.heap.size) : RMd8 w w3 tag tag2 base o o' s p t1 q v b vf :=
  ⟨h.d.later hb, h.s.later hb, h.v.grow hb (fun _ _ => rfl), h.f.grow hb (fun _ _ => rfl), h.st.trans ((step_below tag2 base o hbase hb).two1 o')⟩

theorem RMd8.low (h : RMd8 w w2 tag tag2 base o o' s p t1 q v b vf) (hbase : base ≤ w.heap.size) : base ≤ w2.heap.size := Nat.le_trans hbase h.st.below.size
end

/-- What the document's Append leaves. -/
def RAppPost (w : World) (tag : Nat → Nat) (base o o' : Nat) (s : St) (M : Nat) (t : Sd) (T : Nat) (b : List Int) (w' : World) : Prop :=
  ∃ p' q' tag', p'.M = M ∧ q'.T = T ∧ MD w' tag' base o (appS s t b) p' ∧ MSt w' tag' base o' M s.n (appT s t b) q' ∧ Step2 tag tag' base o o' w w'

theorem bts_cells {w : World} {a : Option Addr} {n c : Nat} {l : List Int} (h : Bts w (.slice a n c) l) (hn : l.length = n) (h0 : 0 < n) : ∃ B O, a = some ⟨B, O, none⟩ ∧ ∀ i, i < n → w.cell? ⟨B, O + i, none⟩ = some (.int .u8 (l.getD i 0)) := by
  obtain ⟨a', c', B, O, e, _, _, _, ha, hs⟩ := h
  injection e with e1 _ _
  subst e1
  rcases ha with rfl | hn'
  · exact ⟨B, O, rfl, fun i hi => hs i (by omega)⟩
  · rw [hn'] at hn; simp at hn; omega

set_option maxHeartbeats 1000000 in
theorem rappend_no (w : World) (tag : Nat → Nat) (base o o' : Nat) (s : St) (p : ML) (h : MD w tag base o s p) (t : Sd) (q : TL) (hq : MSt w tag base o' p.M s.n t q) (v : Value) (b : List Int) (hv : Bts w v b) (hE : frameE b ≠ 0) :
    Calls Tryz.prog 80 #[.pointer (some ⟨q.T, 0, none⟩), v] w fun e w' => e = .returned (.int .i64 (appE s t b)) ∧ RAppPost w tag base o o' s p.M t q.T b w' := by
  have HF := rframe_no w v b hv hE
  have HA : Hid (appE s t b = frameE b) := by show _ = _; unfold appE; rw [if_pos hE]
  have HP : Hid (RAppPost w tag base o o' s p.M t q.T b w) := ⟨p, q, tag, rfl, rfl, by unfold appS; rw [if_pos hE]; exact h, by unfold appT; rw [if_pos hE]; exact hq, Step2.refl _ _ _ _ _⟩
  have hne : (frameE b != 0) = true := by simpa using hE
  clear h hq hE
  obtain ⟨a, c, rfl, _⟩ := bts_src hv
  clear hv
  generalize frameE b = E at *
  go_enter Tryz.func80, Tryz.ntmps80
  go_wp2_with (go_at_call 103; refine HF.mono ?_; rintro e w' ⟨rfl, hx⟩; have HX2 : Hid (w' = w) := hx; clear hx; rw [HX2.out])
  go_ret
  exact ⟨by rw [HA.out]; rfl, HP.out⟩

set_option maxHeartbeats 16000000 in
theorem rappend_ok8 (w : World) (tag : Nat → Nat) (base o o' : Nat) (ho : o ≠ o') (ho1 : 1 ≤ o) (ho2 : 1 ≤ o') (s : St) (p : ML) (h : MD w tag base o s p) (t : Sd) (q : TL) (hq : MSt w tag base o' p.M s.n t q) (hbase : base ≤ w.heap.size) (ht : t.Ok s.n) (v : Value) (b : List Int) (hv : Held w tag v b) (hE : frameE b = 0)
    (hops : s.ops ≤ 1000000) (hout : s.outs.length ≤ 1000000) (hsin : s.since.length ≤ 1000000) (hrec : t.recs.length ≤ 900000) :
    Calls Tryz.prog 80 #[.pointer (some ⟨q.T, 0, none⟩), v] w fun e w' => e = .returned (.int .i64 (appE s t b)) ∧ RAppPost w tag base o o' s p.M t q.T b w' := by
  obtain ⟨hb1, hb2⟩ := frameE_len hE
  obtain ⟨hf1, hf2, hf3⟩ := ht.fit b hE
  have hn2 := h.ok.n2
  have hpn := ht.pn
  have hun := ht.us
  have hfull := ht.full
  have hfpn := hf1.pn
  have hfun := hf1.us
  have HF := rframe_ok w v b hv.1 hb1 hb2
  have HPD : Hid (MD w tag base o s p) := h
  have HPO : Hid (MSt w tag base o' p.M s.n t q) := hq
  have HV : Hid (Held w tag v b) := hv
  obtain ⟨va, vc, hvv, _⟩ := bts_src hv.1
  subst hvv
  have HBA : Hid (base ≤ w.heap.size) := hbase
  have hbb : isBytes b := by obtain ⟨_, _, _, _, _, _, _, hb, _⟩ := hv.1; exact hb
  have HAE : Hid (appE s t b = if s.n ≤ (t.fit b).pos then 6 else errC s.out) := by show _ = _; unfold appE; rw [if_neg (by simp [hE])]
  have HAS : Hid (appS s t b = if s.n ≤ (t.fit b).pos then s else s.write (t.fit b).pos (withB (sec s.now (t.fit b).pos) (t.fit b).used (frameB b))) := by show _ = _; unfold appS; rw [if_neg (by simp [hE])]
  have HAT : Hid (appT s t b = if s.n ≤ (t.fit b).pos then t.fit b else if errC s.out = 0 then (t.fit b).added b else (t.fit b).leave) := by show _ = _; unfold appT; rw [if_neg (by simp [hE])]
  have HFL : Hid ((frameB b).length = b.length + 7) := frameB_len b
  have HST : Hid (∀ w1 v1, Owns w1 w.heap.size v1 (frameB b) → Below w.heap.size w w1 → RMd8 w w1 tag (clip tag w.heap.size) base o o' s p t q (.slice va b.length vc) b v1) := by
    intro w1 v1 hO hB
    exact ⟨HPD.out.clip hB, HPO.out.clip hB, HV.out.alloc hB, hO.held (frameB_bytes b hbb hb2), (step_clip tag base o hbase hB).two1 o'⟩
  clear h hq hv hE hbase hf1
  go_enter Tryz.func80, Tryz.ntmps80
  go_wp2_with fail
  refine HF.mono ?_
  rintro e w1 ⟨v1, rfl, hO, hB⟩
  have HM1 : Hid (RMd8 w w1 tag (clip tag w.heap.size) base o o' s p t q (.slice va b.length vc) b v1) := HST.out w1 v1 hO hB
  have hbt := hO.bts (frameB_bytes b hbb hb2)
  obtain ⟨fa, fc, hfv, _, _⟩ := bts_src hbt
  rw [HFL.out] at hfv
  subst hfv
  generalize clip tag w.heap.size = tag1 at *
  have e0 := HM1.out.s.t0
  have e1 := HM1.out.s.t1
  have e2 := HM1.out.s.t2
  have em := HM1.out.d.m0
  clear hO hB hbt HF
  by_cases hpos : t.pos < s.n
  case neg =>
    have hpe : t.pos = s.n := by omega
    have hu0 := hfull hpe
    have HT1 : Hid (t.fit b = t) := by show _ = _; unfold Sd.fit; rw [if_neg (by rw [hu0]; omega)]
    have hd : decide ((t.pos : Int) < (s.n : Int)) = false := by simp; omega
    have hposI : ¬ (t.pos : Int) < (s.n : Int) := by omega
    have HPost : Hid (∀ nq, RAppPost w tag base o o' s p.M t q.T b (w1.drewN nq)) := fun nq => ⟨p, q, tag1, rfl, rfl, by rw [HAS.out, HT1.out, if_pos (by omega)]; exact (HM1.out.later (below_drewN w1 nq) (HM1.out.low HBA.out)).d, by rw [HAT.out, HT1.out, if_pos (by omega)]; exact (HM1.out.later (below_drewN w1 nq) (HM1.out.low HBA.out)).s, (HM1.out.later (below_drewN w1 nq) (HM1.out.low HBA.out)).st⟩
    have HE6 : Hid (appE s t b = 6) := by show _ = _; rw [HAE.out, HT1.out, if_pos (by omega)]
    go_wp2_with fail
    go_quiet (fail)
    rename Nat => nq1
    have k0 := cell_later (below_drewN w1 nq1) e0
    have k1 := cell_later (below_drewN w1 nq1) e1
    have km := cell_later (below_drewN w1 nq1) em
    obtain ⟨w2, hw2⟩ : ∃ w2, w2 = w1.drewN nq1 := ⟨_, rfl⟩
    rw [← hw2] at k0 k1 km ⊢
    have HW2 : Hid (w2 = w1.drewN nq1) := hw2
    clear hw2 e0 e1 e2 em
    go_wp2_with fail
    go_quiet (fail)
    rename Nat => nq2
    go_wp2
    go_ret
    refine ⟨by rw [HE6.out]; rfl, ?_⟩
    rw [HW2.out, World.drewN_drewN]
    exact HPost.out _
  have hposI : (t.pos : Int) < (s.n : Int) := by omega
  have hd : decide ((t.pos : Int) < (s.n : Int)) = true := by simpa using hpos
  by_cases hfit : 64 < t.used + (b.length + 7)
  · have hfitI : (64 : Int) < (t.used : Int) + ((b.length : Int) + 7) := by omega
    have HT1 : Hid (t.fit b = t.leave) := by show _ = _; unfold Sd.fit; rw [if_pos hfit]
    go_wp2_with fail
    go_quiet (fail)
    rename Nat => nq1
    have HM2 := HM1.out.later (below_drewN w1 nq1) (HM1.out.low HBA.out)
    generalize w1.drewN nq1 = w2 at *
    clear e0 e1 e2 em HM1
    have HNx := rnext_ok w2 tag1 base o' p.M s.n t.pos t.used (bodies t) (cntL t.recs s.n) q HM2.s (by omega)
    have HM2h : Hid (RMd8 w w2 tag tag1 base o o' s p t q (.slice va b.length vc) b (.slice fa (b.length + 7) fc)) := HM2
    clear HM2
    go_wp2_with fail
    refine HNx.mono ?_
    rintro e w3 ⟨rfl, hq3, hS3⟩
    have HM3 : Hid (RMd8 w w3 tag tag1 base o o' s p (t.fit b) q (.slice va b.length vc) b (.slice fa (b.length + 7) fc)) := ⟨HM2h.out.d.other hS3 ho, by rw [HT1.out]; exact hq3, HM2h.out.v.step hS3 ho2, HM2h.out.f.step hS3 ho2, HM2h.out.st.trans (hS3.two2 o)⟩
    clear HNx hq3 hS3 HM2h HT1 hd
    generalize ht1 : t.fit b = t1 at *
    have HBB : Hid (base ≤ w3.heap.size) := HM3.out.low HBA.out
    have k0 := HM3.out.s.t0
    have k1 := HM3.out.s.t1
    have km := HM3.out.d.m0
    go_wp2_with fail
    by_cases hfl1 : s.n ≤ t1.pos
    · have hflI : (s.n : Int) ≤ (t1.pos : Int) := by omega
      have HPost : Hid (∀ nq, RAppPost w tag base o o' s p.M t q.T b (w3.drewN nq)) := fun nq => ⟨p, q, tag1, rfl, rfl, by rw [HAS.out, if_pos hfl1]; exact (HM3.out.later (below_drewN w3 nq) HBB.out).d, by rw [HAT.out, if_pos hfl1]; exact (HM3.out.later (below_drewN w3 nq) HBB.out).s, (HM3.out.later (below_drewN w3 nq) HBB.out).st⟩
      have HE6 : Hid (appE s t b = 6) := by show _ = _; rw [HAE.out, if_pos hfl1]
      go_quiet (fail)
      rename Nat => nq2
      go_wp2
      go_ret
      exact ⟨by rw [HE6.out]; rfl, HPost.out _⟩
    have hflI : ¬ (s.n : Int) ≤ (t1.pos : Int) := by omega
    rw [if_neg hfl1] at HAE HAS HAT
    go_quiet (fail)
    rename Nat => nq2
    have HM4 : Hid (RMd8 w (w3.drewN nq2) tag tag1 base o o' s p t1 q (.slice va b.length vc) b (.slice fa (b.length + 7) fc)) := HM3.out.later (below_drewN w3 nq2) HBB.out
    have HB4 : Hid (base ≤ (w3.drewN nq2).heap.size) := HBB.out
    generalize w3.drewN nq2 = w4 at *
    clear k0 k1 km HM3 HBB
    have HSd : Hid (Below w4.heap.size w4 w4.drew) := (Below.refl _ _).drew
    have c0 := HM4.out.s.t0
    have c1 := HM4.out.s.t1
    have K1 : w4.drew.cell? ⟨q.T, 0, none⟩ = some (.pointer (some ⟨p.M, 0, none⟩)) ∧ w4.drew.cell? ⟨q.T, 1, none⟩ = some (.int .i64 t1.pos) := ⟨c0, c1⟩
    have HRd := rread_ok w4.drew tag1 base o s p (HM4.out.d.later HSd.out) t1.pos (by omega)
    have HK2 : Hid (∀ wx, Below w4.drew.heap.size w4.drew wx → wx.cell? ⟨q.T, 0, none⟩ = some (.pointer (some ⟨p.M, 0, none⟩)) ∧ wx.cell? ⟨q.T, 1, none⟩ = some (.int .i64 t1.pos)) := fun wx hx => ⟨cell_later hx c0, cell_later hx c1⟩
    have hsb := sec_bytes HPD.out.ok.nb t1.pos
    have HSL : Hid ((sec s.now t1.pos).length = 64) := sec_len HPD.out.ok.nl (by omega)
    go_wp2_with fail
    go_region_held3 (fun w' => w'.cell? ⟨q.T, 0, none⟩ = some (.pointer (some ⟨p.M, 0, none⟩)) ∧ w'.cell? ⟨q.T, 1, none⟩ = some (.int .i64 t1.pos))
      (first | (with_reducible exact K1) | (with_reducible exact K2)) ((go_at_call 73; refine HRd.mono ?_; rintro e w5 ⟨v5, rfl, hO5, hB5⟩; have K2 := HK2.out w5 hB5))
    have HBt5 : Hid (Bts w5 v5 (sec s.now t1.pos)) := hO5.bts hsb
    obtain ⟨sa, sc', hv5, hsc1, hsc2, _⟩ := bts_src HBt5.out
    rw [HSL.out] at hv5 hsc1
    subst hv5
    unfold maxLen at hsc2
    have HM5 : Hid (RMd8 w w5 tag tag1 base o o' s p t1 q (.slice va b.length vc) b (.slice fa (b.length + 7) fc)) := HM4.out.later (HSd.out.trans hB5) HB4.out
    have HB5 : Hid (base ≤ w5.heap.size) := Nat.le_trans HB4.out (HSd.out.trans hB5).size
    clear K1 K2 HK2 HRd hO5 hB5 HM4 HB4 HSd c0 c1
    generalize hSC : sec s.now t1.pos = sC at *
    clear hSC
    have hfc := bts_src HM5.out.f.1
    obtain ⟨fa', fc', hfv', hf11, hf12, _⟩ := hfc
    rw [HFL.out] at hfv' hf11
    injection hfv' with hfe1 _ hfe2
    subst hfe1; subst hfe2
    unfold maxLen at hf12
    obtain ⟨RB, RO, rfl, hRc⟩ := bts_cells HBt5.out HSL.out (by omega)
    obtain ⟨FB, FO, rfl, hFc⟩ := bts_cells HM5.out.f.1 HFL.out (by omega)
    have HRc : Hid (∀ i, i < 64 → w5.cell? ⟨RB, RO + i, none⟩ = some (.int .u8 (sC.getD i 0))) := hRc
    have HFc : Hid (∀ i, i < b.length + 7 → w5.cell? ⟨FB, FO + i, none⟩ = some (.int .u8 ((frameB b).getD i 0))) := hFc
    have c2 := HM5.out.s.t2
    have hLb := withB_bytes sC t1.used (frameB b) hsb (frameB_bytes b hbb hb2)
    have HLl : Hid ((withB sC t1.used (frameB b)).length = 64) := withB_len _ _ _ HSL.out (by rw [HFL.out]; omega)
    have HLg : Hid (∀ i, i < 64 → (withB sC t1.used (frameB b)).getD i 0 = if i < t1.used then sC.getD i 0 else if i < t1.used + (b.length + 7) then (frameB b).getD (i - t1.used) 0 else 0) := fun i hi => by
      have := withB_get sC (frameB b) t1.used i HSL.out (by rw [HFL.out]; omega)
      rwa [HFL.out] at this
    generalize withB sC t1.used (frameB b) = L at *
    clear hRc hFc hpos hposI hflI
    go_wp2
    go_loopg [9, 10] 64 (fun gk v i wr => ∃ k : Nat, k + gk = 64 ∧ i = .int .i64 k ∧ Owns wr w5.heap.size v (L.take k) ∧ Below w5.heap.size w5 wr)
    case atStart => exact ⟨0, by omega, rfl, by rw [List.take_zero]; exact World.ownsRow_nil _ _ _ _, Below.refl _ _⟩
    case round =>
      obtain ⟨w8, rfl⟩ : ∃ w8, w8 = wr := ⟨wr, rfl⟩
      obtain ⟨k, hk, rfl, hO, hB8⟩ := hrel
      by_cases hk64 : k < 64
      case pos =>
        have hkI : (k : Int) < 64 := by omega
        have d2 := cell_later hB8 c2
        have HTk : Hid (L.take (k + 1) = L.take k ++ [L.getD k 0]) := take_snoc L k (by rw [HLl.out]; exact hk64)
        have hLg := HLg.out k hk64
        have hlt : (L.take k).length ≤ 64 := by rw [List.length_take]; omega
        obtain ⟨vv, w9, hr, hO9, hB9⟩ := append_one w8 w5.heap.size _ (L.take k) (L.getD k 0) hO hB8.size (by omega)
        rw [← HTk.out] at hO9
        have HR9 : Hid (Owns w9 w5.heap.size vv (L.take (k + 1)) ∧ Below w5.heap.size w5 w9) := ⟨hO9, hB8.trans hB9⟩
        by_cases hA : k < t1.used
        · rw [if_pos hA] at hLg
          rw [hLg] at hr
          have hAI : (k : Int) < (t1.used : Int) := by omega
          have dc := cell_later hB8 (HRc.out k hk64)
          clear hO9 hB9 hLg
          generalize sC.getD k 0 = c at *
          go_wp2_with (at_builtin; refine wpl_append_run rfl _ _ 39 rfl _ _ rfl rfl hr ?_)
          go_roundg (64 - (k + 1))
          case rel => exact ⟨k + 1, by omega, by go_num, HR9.out⟩
          case measure => omega
        · rw [if_neg hA] at hLg
          have hAI : ¬ (k : Int) < (t1.used : Int) := by omega
          by_cases hA2 : k < t1.used + (b.length + 7)
          · rw [if_pos hA2] at hLg
            rw [hLg] at hr
            have hA2I : (k : Int) < (t1.used : Int) + ((b.length : Int) + 7) := by omega
            have dc := cell_later hB8 (HFc.out (k - t1.used) (by omega))
            obtain ⟨m, hm⟩ : ∃ m, m = k - t1.used := ⟨_, rfl⟩
            rw [← hm] at dc hr
            have hmI : (k : Int) - (t1.used : Int) = (m : Int) := by omega
            have hm63 : m < b.length + 7 := by omega
            have hm63I : (m : Int) < (b.length : Int) + 7 := by omega
            have HmI : Hid ((k : Int) - (t1.used : Int) = (m : Int)) := hmI
            clear hO9 hB9 hLg hm
            generalize (frameB b).getD m 0 = c at *
            go_wp2_with (at_builtin; refine wpl_append_run rfl _ _ 39 rfl _ _ rfl rfl hr ?_)
            go_roundg (64 - (k + 1))
            case rel => exact ⟨k + 1, by omega, by go_num, HR9.out⟩
            case measure => omega
          · rw [if_neg hA2] at hLg
            rw [hLg] at hr
            have hA2I : ¬ (k : Int) < (t1.used : Int) + ((b.length : Int) + 7) := by omega
            clear hO9 hB9 hLg
            go_wp2_with (at_builtin; refine wpl_append_run rfl _ _ 39 rfl _ _ rfl rfl hr ?_)
            go_roundg (64 - (k + 1))
            case rel => exact ⟨k + 1, by omega, by go_num, HR9.out⟩
            case measure => omega
      have hge : ¬ (k : Int) < 64 := by omega
      rw [List.take_of_length_le (by rw [HLl.out]; omega)] at hO
      have HM8 : Hid (RMd8 w w8 tag (clip tag1 w5.heap.size) base o o' s p t1 q (.slice va b.length vc) b (.slice (some ⟨FB, FO, none⟩) (b.length + 7) fc)) := HM5.out.clip hB8 HB5.out
      have HW8 : Hid (base ≤ w8.heap.size) := Nat.le_trans HB5.out hB8.size
      have hbt8 := hO.bts hLb
      have hfar := hO.tag0 tag1 o ho1
      obtain ⟨ua8, uc8, hv8, _⟩ := bts_src hbt8
      rw [HLl.out] at hv8
      subst hv8
      generalize clip tag1 w5.heap.size = tag8 at *
      have HSd : Below w8.heap.size w8 w8.drew := (Below.refl _ _).drew
      have HWr := rwrite_okI w8.drew tag8 base o s p (HM8.out.d.later HSd) HW8.out t1.pos (by omega) _ L (hbt8.later HSd) HLl.out hfar hops hout hsin
      have c0 := HM8.out.s.t0
      have c1 := HM8.out.s.t1
      have K1 : w8.drew.cell? ⟨q.T, 0, none⟩ = some (.pointer (some ⟨p.M, 0, none⟩)) ∧ w8.drew.cell? ⟨q.T, 1, none⟩ = some (.int .i64 t1.pos) := ⟨c0, c1⟩
      have hE := err_cases s.out
      clear hO hB8 hbt8 hfar HSd HRc HFc HLg c2 HBt5 HSL HM5 HB5
      generalize s.write t1.pos L = s9 at *
      generalize errC s.out = E at *
      go_wp2_with fail
      go_region_held3 (fun w' => w'.cell? ⟨q.T, 0, none⟩ = some (.pointer (some ⟨p.M, 0, none⟩)) ∧ w'.cell? ⟨q.T, 1, none⟩ = some (.int .i64 t1.pos))
        (first | (with_reducible exact K1) | (with_reducible exact K9)) ((go_at_call 104; refine HWr.mono ?_; rintro e w9 ⟨rfl, p9, tag9, hM9, hP9, hS9⟩; have hq9 := (HM8.out.s.later (Below.refl _ _).drew).other hS9 (fun e => ho e.symm); have K9 : w9.cell? ⟨q.T, 0, none⟩ = some (.pointer (some ⟨p.M, 0, none⟩)) ∧ w9.cell? ⟨q.T, 1, none⟩ = some (.int .i64 t1.pos) := ⟨hq9.t0, hq9.t1⟩; have HQ9 : Hid (MSt w9 tag9 base o' p.M s.n t1 q) := hq9; have HP9 : Hid (MD w9 tag9 base o s9 p9) := hP9; have HS9 : Hid (Step tag8 tag9 base o w8.drew w9) := hS9; clear hP9 hS9 hq9))
      have HV9 : Hid (Held w9 tag9 (.slice va b.length vc) b) := (HM8.out.v.grow (Below.refl _ _).drew (fun _ _ => rfl)).step HS9.out ho1
      have HSt9 : Hid (Step2 tag tag9 base o o' w w9) := (HM8.out.st.trans ((step_below tag8 base o HW8.out (Below.refl _ _).drew).two1 o')).trans (HS9.out.two1 o')
      clear K1 K9 HWr HM8 HW8 HS9 c0 c1
      rcases hE with rfl | rfl
      case inr =>
        rw [if_neg (by decide)] at HAT
        have HNx := rnext_ok w9 tag9 base o' p.M s.n t1.pos t1.used (bodies t1) (cntL t1.recs s.n) q HQ9.out (by omega)
        go_wp2_with fail
        refine HNx.mono ?_
        rintro e w10 ⟨rfl, hq10, hS10⟩
        have HPost : Hid (RAppPost w tag base o o' s p.M t q.T b w10) := ⟨p9, q, tag9, hM9, rfl, by rw [HAS.out]; exact HP9.out.other hS10 ho, by rw [HAT.out]; exact hq10, HSt9.out.trans (hS10.two2 o)⟩
        clear HNx hq10 hS10 HQ9 HP9 HSt9 HV9
        go_wp2
        go_ret
        exact ⟨by rw [HAE.out]; rfl, HPost.out⟩
      rw [if_pos rfl] at HAT
      have HBas9 : Hid (base ≤ w9.heap.size) := Nat.le_trans HBA.out HSt9.out.below.size
      obtain ⟨g10, h10⟩ := HQ9.out.byte (t1.used + (b.length + 7))
      have e2 := HQ9.out.t2
      have f2 := HQ9.out.fT 2
      have HM10 : Hid (MS (w9.setCell ⟨q.T, 2, none⟩ (.int .i64 ((t1.used + (b.length + 7) : Nat) : Int))) tag9 base o' p.M s.n t1.pos (t1.used + (b.length + 7)) (bodies t1) (cntL t1.recs s.n) q ∧ Step tag9 tag9 base o' w9 (w9.setCell ⟨q.T, 2, none⟩ (.int .i64 ((t1.used + (b.length + 7) : Nat) : Int)))) := ⟨g10, h10⟩
      obtain ⟨w10, hw10⟩ : ∃ w10, w10 = w9.setCell ⟨q.T, 2, none⟩ (.int .i64 ((t1.used + (b.length + 7) : Nat) : Int)) := ⟨_, rfl⟩
      rw [← hw10] at HM10
      have HW10 : Hid (w9.setCell ⟨q.T, 2, none⟩ (.int .i64 ((t1.used : Int) + ((b.length : Int) + 7))) = w10) := by show _ = _; rw [hw10]; rfl
      clear g10 h10 hw10
      go_wp2_with fail
      rw [HW10.out]
      clear HW10 e2 f2
      have d1 := HM10.out.1.t1
      have d4 := HM10.out.1.t4
      have di := HM10.out.1.i t1.pos (by omega)
      have dfi := HM10.out.1.fI t1.pos
      have hcc : 0 ≤ (cntL t1.recs s.n).getD t1.pos 0 ∧ (cntL t1.recs s.n).getD t1.pos 0 ≤ 900000 := by
        rw [cntL_get _ _ _ (by omega)]
        have := List.countP_le_length (p := fun x : Nat × List Int => x.1 == t1.pos) (l := t1.recs)
        rw [hf3] at this ⊢
        omega
      obtain ⟨hcc0, hcc1⟩ := hcc
      obtain ⟨g11, h11⟩ := HM10.out.1.count t1.pos ((cntL t1.recs s.n).getD t1.pos 0 + 1)
      rw [← cntL_snoc t1.recs s.n t1.pos b (by omega)] at g11
      have HM11 : Hid (MS (w10.setCell ⟨q.I, t1.pos, none⟩ (.int .i64 ((cntL t1.recs s.n).getD t1.pos 0 + 1))) tag9 base o' p.M s.n t1.pos (t1.used + (b.length + 7)) (bodies t1) (cntL (t1.recs ++ [(t1.pos, b)]) s.n) q ∧ Step tag9 tag9 base o' w9 (w10.setCell ⟨q.I, t1.pos, none⟩ (.int .i64 ((cntL t1.recs s.n).getD t1.pos 0 + 1)))) := ⟨g11, HM10.out.2.trans h11⟩
      have hposn : (t1.pos : Int) < (s.n : Int) := by omega
      generalize (cntL t1.recs s.n).getD t1.pos 0 = C at *
      clear g11 h11 HM10
      go_wp2_with fail
      go_region
      all_goals
        have hq12 := HM11.out.1.later (Below.refl _ _).drew
        have HS12 := HM11.out.2.drewN 1
        obtain ⟨w12, hw12⟩ : ∃ w12, w12 = (w10.setCell ⟨q.I, t1.pos, none⟩ (.int .i64 (C + 1))).drew := ⟨_, rfl⟩
        rw [← hw12] at hq12 ⊢
        have hS12 : Step tag9 tag9 base o' w9 w12 := by rw [hw12]; exact HS12
        have HV12 : Hid (Held w12 tag9 (.slice va b.length vc) b) := HV9.out.step hS12 ho2
        have HP12 : Hid (MD w12 tag9 base o s9 p9) := HP9.out.other hS12 ho
        have HSt12 : Hid (Step2 tag tag9 base o o' w w12) := HSt9.out.trans (hS12.two2 o)
        have HBas12 : Hid (base ≤ w12.heap.size) := Nat.le_trans HBas9.out hS12.below.size
        clear HM11 HS12 hS12 hw12 HV9 HP9 HSt9 HBas9 HQ9 d1 d4 di dfi hcc0 hcc1 hposn
        have hB12 : Below w12.heap.size w12 w12.drew := (Below.refl _ _).drew
        have HC := copy_bts w12.drew _ b (HV12.out.1.later hB12) (by omega)
        have d3 := hq12.t3
        have hTlt12 : q.T < w12.heap.size := hq12.bT.lt
        obtain ⟨ra, rc, hrv⟩ := win_shape hq12.wL
        have hbl : (bodies t1).length ≤ 900000 := by rw [bodies_len, hf3]; exact hrec
        have HRV : Hid (q.lv = .slice ra (bodies t1).length rc) := hrv
        have HAP : Hid (∀ w14 ua uc, Owns w14 w12.heap.size (.slice ua b.length uc) b → Below w12.heap.size w12.drew w14 → ∀ v' w16, (w14.alloc (.cells #[.slice ua b.length uc] 39)).grownBy w16 (Value.slice ra (bodies t1).length rc).ownBlock → (v'.ownBlock = (Value.slice ra (bodies t1).length rc).ownBlock ∨ v'.ownBlock = some (w14.alloc (.cells #[.slice ua b.length uc] 39)).heap.size) →
            Win w16 1 v' ((bodies t1).length + 1) (q.vs ++ [.slice ua b.length uc]) → RAppPost w tag base o o' s p.M t q.T b (w16.setCell ⟨q.T, 3, none⟩ v') ∧ w16.cell? ⟨q.T, 3, none⟩ = some q.lv ∧ w16.frozen? ⟨q.T, 3, none⟩ = false) := by
          intro w14 ua uc hO hB14 v' w16 hg ha hw
          have hB1214 : Below w12.heap.size w12 w14 := hB12.trans hB14
          have hS14 := step_over tag9 base o' (16 * o' + 9) HBas12.out hB1214
          have hq14 := hq12.keep (w' := w14) (tag' := tagOver tag9 w12.heap.size (16 * o' + 9)) (fun k hk _ => hB1214.block k hk) hS14.tags hB1214.size
          rw [← HRV.out] at hg ha
          obtain ⟨tag', e1, e2, _⟩ := hq14.pushed (Nat.le_trans HBas12.out hB1214.size) (below_alloc w14 (.cells #[.slice ua b.length uc] 39)) b _ v' (hO.bts hbb)
            (fun g hg' => ⟨tagOver_ge _ _ _ _ (hO.lt g hg').1, Nat.le_trans HBas12.out (hO.lt g hg').1, (hO.lt g hg').2⟩) hg ha hw
          have hSall := (HSt12.out.trans (hS14.two2 o)).trans (e2.two2 o)
          have hne : q.lv.ownBlock ≠ some q.T := fun e => by have := (hq14.tL _ e).1; rw [hq14.tT.1] at this; omega
          have hblk : Blk w16 q.T _ := hq14.bT.same ((hg.block q.T (by simp; have := hq14.bT.lt; omega) (fun e => hne e.symm)).trans ((below_alloc w14 _).block q.T hq14.bT.lt))
          refine ⟨⟨p9, ⟨q.T, v', q.vs ++ [.slice ua b.length uc], q.I⟩, tag', hM9, rfl, ?_, ?_, hSall⟩, hblk.cell 3, hblk.frozen 3⟩
          · rw [HAS.out]
            exact (HP12.out.other hS14 ho).other e2 ho
          · rw [HAT.out]
            have hbod : bodies (t1.added b) = bodies t1 ++ [b] := by simp [bodies, Sd.added]
            show MS _ _ _ _ _ _ _ _ (bodies (t1.added b)) _ _
            rw [hbod]
            exact e1
        have HWn : Hid (∀ w14, Below w12.heap.size w12.drew w14 → Win w14 1 (.slice ra (bodies t1).length rc) (bodies t1).length q.vs) := by
          intro w14 hB14
          rw [← HRV.out]
          exact (hq12.wL.later hB12).later hB14
        rw [hrv] at d3 HAP
        obtain ⟨i0, hi, hz0, hz1, hz2⟩ := info_parts infoB
        generalize (bodies t1).length = rn at *
        clear hrv hq12 HV12 HP12 HSt12 HBas12 HRV
        go_wp2_with fail
        go_region_law (first
          | (refine step_call1 rfl 105 (.tmp 152) 39 rfl (.slice va b.length vc) (by go_simp) enters_copy (by with_reducible exact HC) ?_; rintro e w14 ⟨u, rfl, hO, hB14⟩; refine ⟨_, rfl, ?_⟩; obtain ⟨ua, uc, rfl, _⟩ := bts_src (hO.bts hbb); have d3' := cell_later (hB12.trans hB14) d3; have hsz14 : q.T < w14.heap.size := Nat.lt_of_lt_of_le hTlt12 hB14.size; have hwn14 := HWn.out w14 hB14)
          | (refine step_win_append rfl (.tmp 151) (.tmp 154) 79 rfl 39 i0 (.slice none 0 0) 1 24 Tryz.underlying79 hi hz0 hz1 hz2 rfl (by decide) (.slice ra rn rc) rn q.vs (by rfl) (by exact hwn14.later (below_alloc w14 _)) ⟨w14.heap.size, 0, none⟩ 1 1 [.slice ua b.length uc] (by rfl) rfl (by exact news_new w14 #[.slice ua b.length uc] 39) (by intro u hu; simp at hu; subst hu; rfl) (by unfold maxLen; omega) (by omega) ?_; intro v' w16 hwin hgrow hat; obtain ⟨va', vc', hvv⟩ := win_shape hwin; subst hvv; obtain ⟨hAP, g4, g5⟩ := HAP.out w14 ua uc hO hB14 _ w16 hgrow hat hwin))
        all_goals
          go_wp2
          go_ret
          exact ⟨by rw [HAE.out]; rfl, hAP⟩
  · have hfitI : ¬ (64 : Int) < (t.used : Int) + ((b.length : Int) + 7) := by omega
    have HT1 : Hid (t.fit b = t) := by show _ = _; unfold Sd.fit; rw [if_neg hfit]
    go_wp2_with fail
    go_quiet (fail)
    rename Nat => nq1
    have HM3 : Hid (RMd8 w (w1.drewN nq1) tag tag1 base o o' s p (t.fit b) q (.slice va b.length vc) b (.slice fa (b.length + 7) fc)) := by
      show RMd8 _ _ _ _ _ _ _ _ _ _ _ _ _ _
      rw [HT1.out]; exact HM1.out.later (below_drewN w1 nq1) (HM1.out.low HBA.out)
    generalize w1.drewN nq1 = w3 at *
    clear e0 e1 e2 em HM1 HT1 hd
    generalize ht1 : t.fit b = t1 at *
    have HBB : Hid (base ≤ w3.heap.size) := HM3.out.low HBA.out
    have k0 := HM3.out.s.t0
    have k1 := HM3.out.s.t1
    have km := HM3.out.d.m0
    go_wp2_with fail
    by_cases hfl1 : s.n ≤ t1.pos
    · have hflI : (s.n : Int) ≤ (t1.pos : Int) := by omega
      have HPost : Hid (∀ nq, RAppPost w tag base o o' s p.M t q.T b (w3.drewN nq)) := fun nq => ⟨p, q, tag1, rfl, rfl, by rw [HAS.out, if_pos hfl1]; exact (HM3.out.later (below_drewN w3 nq) HBB.out).d, by rw [HAT.out, if_pos hfl1]; exact (HM3.out.later (below_drewN w3 nq) HBB.out).s, (HM3.out.later (below_drewN w3 nq) HBB.out).st⟩
      have HE6 : Hid (appE s t b = 6) := by show _ = _; rw [HAE.out, if_pos hfl1]
      go_quiet (fail)
      rename Nat => nq2
      go_wp2
      go_ret
      exact ⟨by rw [HE6.out]; rfl, HPost.out _⟩
    have hflI : ¬ (s.n : Int) ≤ (t1.pos : Int) := by omega
    rw [if_neg hfl1] at HAE HAS HAT
    go_quiet (fail)
    rename Nat => nq2
    have HM4 : Hid (RMd8 w (w3.drewN nq2) tag tag1 base o o' s p t1 q (.slice va b.length vc) b (.slice fa (b.length + 7) fc)) := HM3.out.later (below_drewN w3 nq2) HBB.out
    have HB4 : Hid (base ≤ (w3.drewN nq2).heap.size) := HBB.out
    generalize w3.drewN nq2 = w4 at *
    clear k0 k1 km HM3 HBB
    have HSd : Hid (Below w4.heap.size w4 w4.drew) := (Below.refl _ _).drew
    have c0 := HM4.out.s.t0
    have c1 := HM4.out.s.t1
    have K1 : w4.drew.cell? ⟨q.T, 0, none⟩ = some (.pointer (some ⟨p.M, 0, none⟩)) ∧ w4.drew.cell? ⟨q.T, 1, none⟩ = some (.int .i64 t1.pos) := ⟨c0, c1⟩
    have HRd := rread_ok w4.drew tag1 base o s p (HM4.out.d.later HSd.out) t1.pos (by omega)
    have HK2 : Hid (∀ wx, Below w4.drew.heap.size w4.drew wx → wx.cell? ⟨q.T, 0, none⟩ = some (.pointer (some ⟨p.M, 0, none⟩)) ∧ wx.cell? ⟨q.T, 1, none⟩ = some (.int .i64 t1.pos)) := fun wx hx => ⟨cell_later hx c0, cell_later hx c1⟩
    have hsb := sec_bytes HPD.out.ok.nb t1.pos
    have HSL : Hid ((sec s.now t1.pos).length = 64) := sec_len HPD.out.ok.nl (by omega)
    go_wp2_with fail
    go_region_held3 (fun w' => w'.cell? ⟨q.T, 0, none⟩ = some (.pointer (some ⟨p.M, 0, none⟩)) ∧ w'.cell? ⟨q.T, 1, none⟩ = some (.int .i64 t1.pos))
      (first | (with_reducible exact K1) | (with_reducible exact K2)) ((go_at_call 73; refine HRd.mono ?_; rintro e w5 ⟨v5, rfl, hO5, hB5⟩; have K2 := HK2.out w5 hB5))
    have HBt5 : Hid (Bts w5 v5 (sec s.now t1.pos)) := hO5.bts hsb
    obtain ⟨sa, sc', hv5, hsc1, hsc2, _⟩ := bts_src HBt5.out
    rw [HSL.out] at hv5 hsc1
    subst hv5
    unfold maxLen at hsc2
    have HM5 : Hid (RMd8 w w5 tag tag1 base o o' s p t1 q (.slice va b.length vc) b (.slice fa (b.length + 7) fc)) := HM4.out.later (HSd.out.trans hB5) HB4.out
    have HB5 : Hid (base ≤ w5.heap.size) := Nat.le_trans HB4.out (HSd.out.trans hB5).size
    clear K1 K2 HK2 HRd hO5 hB5 HM4 HB4 HSd c0 c1
    generalize hSC : sec s.now t1.pos = sC at *
    clear hSC
    have hfc := bts_src HM5.out.f.1
    obtain ⟨fa', fc', hfv', hf11, hf12, _⟩ := hfc
    rw [HFL.out] at hfv' hf11
    injection hfv' with hfe1 _ hfe2
    subst hfe1; subst hfe2
    unfold maxLen at hf12
    obtain ⟨RB, RO, rfl, hRc⟩ := bts_cells HBt5.out HSL.out (by omega)
    obtain ⟨FB, FO, rfl, hFc⟩ := bts_cells HM5.out.f.1 HFL.out (by omega)
    have HRc : Hid (∀ i, i < 64 → w5.cell? ⟨RB, RO + i, none⟩ = some (.int .u8 (sC.getD i 0))) := hRc
    have HFc : Hid (∀ i, i < b.length + 7 → w5.cell? ⟨FB, FO + i, none⟩ = some (.int .u8 ((frameB b).getD i 0))) := hFc
    have c2 := HM5.out.s.t2
    have hLb := withB_bytes sC t1.used (frameB b) hsb (frameB_bytes b hbb hb2)
    have HLl : Hid ((withB sC t1.used (frameB b)).length = 64) := withB_len _ _ _ HSL.out (by rw [HFL.out]; omega)
    have HLg : Hid (∀ i, i < 64 → (withB sC t1.used (frameB b)).getD i 0 = if i < t1.used then sC.getD i 0 else if i < t1.used + (b.length + 7) then (frameB b).getD (i - t1.used) 0 else 0) := fun i hi => by
      have := withB_get sC (frameB b) t1.used i HSL.out (by rw [HFL.out]; omega)
      rwa [HFL.out] at this
    generalize withB sC t1.used (frameB b) = L at *
    clear hRc hFc hpos hposI hflI
    go_wp2
    go_loopg [9, 10] 64 (fun gk v i wr => ∃ k : Nat, k + gk = 64 ∧ i = .int .i64 k ∧ Owns wr w5.heap.size v (L.take k) ∧ Below w5.heap.size w5 wr)
    case atStart => exact ⟨0, by omega, rfl, by rw [List.take_zero]; exact World.ownsRow_nil _ _ _ _, Below.refl _ _⟩
    case round =>
      obtain ⟨w8, rfl⟩ : ∃ w8, w8 = wr := ⟨wr, rfl⟩
      obtain ⟨k, hk, rfl, hO, hB8⟩ := hrel
      by_cases hk64 : k < 64
      case pos =>
        have hkI : (k : Int) < 64 := by omega
        have d2 := cell_later hB8 c2
        have HTk : Hid (L.take (k + 1) = L.take k ++ [L.getD k 0]) := take_snoc L k (by rw [HLl.out]; exact hk64)
        have hLg := HLg.out k hk64
        have hlt : (L.take k).length ≤ 64 := by rw [List.length_take]; omega
        obtain ⟨vv, w9, hr, hO9, hB9⟩ := append_one w8 w5.heap.size _ (L.take k) (L.getD k 0) hO hB8.size (by omega)
        rw [← HTk.out] at hO9
        have HR9 : Hid (Owns w9 w5.heap.size vv (L.take (k + 1)) ∧ Below w5.heap.size w5 w9) := ⟨hO9, hB8.trans hB9⟩
        by_cases hA : k < t1.used
        · rw [if_pos hA] at hLg
          rw [hLg] at hr
          have hAI : (k : Int) < (t1.used : Int) := by omega
          have dc := cell_later hB8 (HRc.out k hk64)
          clear hO9 hB9 hLg
          generalize sC.getD k 0 = c at *
          go_wp2_with (at_builtin; refine wpl_append_run rfl _ _ 39 rfl _ _ rfl rfl hr ?_)
          go_roundg (64 - (k + 1))
          case rel => exact ⟨k + 1, by omega, by go_num, HR9.out⟩
          case measure => omega
        · rw [if_neg hA] at hLg
          have hAI : ¬ (k : Int) < (t1.used : Int) := by omega
          by_cases hA2 : k < t1.used + (b.length + 7)
          · rw [if_pos hA2] at hLg
            rw [hLg] at hr
            have hA2I : (k : Int) < (t1.used : Int) + ((b.length : Int) + 7) := by omega
            have dc := cell_later hB8 (HFc.out (k - t1.used) (by omega))
            obtain ⟨m, hm⟩ : ∃ m, m = k - t1.used := ⟨_, rfl⟩
            rw [← hm] at dc hr
            have hmI : (k : Int) - (t1.used : Int) = (m : Int) := by omega
            have hm63 : m < b.length + 7 := by omega
            have hm63I : (m : Int) < (b.length : Int) + 7 := by omega
            have HmI : Hid ((k : Int) - (t1.used : Int) = (m : Int)) := hmI
            clear hO9 hB9 hLg hm
            generalize (frameB b).getD m 0 = c at *
            go_wp2_with (at_builtin; refine wpl_append_run rfl _ _ 39 rfl _ _ rfl rfl hr ?_)
            go_roundg (64 - (k + 1))
            case rel => exact ⟨k + 1, by omega, by go_num, HR9.out⟩
            case measure => omega
          · rw [if_neg hA2] at hLg
            rw [hLg] at hr
            have hA2I : ¬ (k : Int) < (t1.used : Int) + ((b.length : Int) + 7) := by omega
            clear hO9 hB9 hLg
            go_wp2_with (at_builtin; refine wpl_append_run rfl _ _ 39 rfl _ _ rfl rfl hr ?_)
            go_roundg (64 - (k + 1))
            case rel => exact ⟨k + 1, by omega, by go_num, HR9.out⟩
            case measure => omega
      have hge : ¬ (k : Int) < 64 := by omega
      rw [List.take_of_length_le (by rw [HLl.out]; omega)] at hO
      have HM8 : Hid (RMd8 w w8 tag (clip tag1 w5.heap.size) base o o' s p t1 q (.slice va b.length vc) b (.slice (some ⟨FB, FO, none⟩) (b.length + 7) fc)) := HM5.out.clip hB8 HB5.out
      have HW8 : Hid (base ≤ w8.heap.size) := Nat.le_trans HB5.out hB8.size
      have hbt8 := hO.bts hLb
      have hfar := hO.tag0 tag1 o ho1
      obtain ⟨ua8, uc8, hv8, _⟩ := bts_src hbt8
      rw [HLl.out] at hv8
      subst hv8
      generalize clip tag1 w5.heap.size = tag8 at *
      have HSd : Below w8.heap.size w8 w8.drew := (Below.refl _ _).drew
      have HWr := rwrite_okI w8.drew tag8 base o s p (HM8.out.d.later HSd) HW8.out t1.pos (by omega) _ L (hbt8.later HSd) HLl.out hfar hops hout hsin
      have c0 := HM8.out.s.t0
      have c1 := HM8.out.s.t1
      have K1 : w8.drew.cell? ⟨q.T, 0, none⟩ = some (.pointer (some ⟨p.M, 0, none⟩)) ∧ w8.drew.cell? ⟨q.T, 1, none⟩ = some (.int .i64 t1.pos) := ⟨c0, c1⟩
      have hE := err_cases s.out
      clear hO hB8 hbt8 hfar HSd HRc HFc HLg c2 HBt5 HSL HM5 HB5
      generalize s.write t1.pos L = s9 at *
      generalize errC s.out = E at *
      go_wp2_with fail
      go_region_held3 (fun w' => w'.cell? ⟨q.T, 0, none⟩ = some (.pointer (some ⟨p.M, 0, none⟩)) ∧ w'.cell? ⟨q.T, 1, none⟩ = some (.int .i64 t1.pos))
        (first | (with_reducible exact K1) | (with_reducible exact K9)) ((go_at_call 104; refine HWr.mono ?_; rintro e w9 ⟨rfl, p9, tag9, hM9, hP9, hS9⟩; have hq9 := (HM8.out.s.later (Below.refl _ _).drew).other hS9 (fun e => ho e.symm); have K9 : w9.cell? ⟨q.T, 0, none⟩ = some (.pointer (some ⟨p.M, 0, none⟩)) ∧ w9.cell? ⟨q.T, 1, none⟩ = some (.int .i64 t1.pos) := ⟨hq9.t0, hq9.t1⟩; have HQ9 : Hid (MSt w9 tag9 base o' p.M s.n t1 q) := hq9; have HP9 : Hid (MD w9 tag9 base o s9 p9) := hP9; have HS9 : Hid (Step tag8 tag9 base o w8.drew w9) := hS9; clear hP9 hS9 hq9))
      have HV9 : Hid (Held w9 tag9 (.slice va b.length vc) b) := (HM8.out.v.grow (Below.refl _ _).drew (fun _ _ => rfl)).step HS9.out ho1
      have HSt9 : Hid (Step2 tag tag9 base o o' w w9) := (HM8.out.st.trans ((step_below tag8 base o HW8.out (Below.refl _ _).drew).two1 o')).trans (HS9.out.two1 o')
      clear K1 K9 HWr HM8 HW8 HS9 c0 c1
      rcases hE with rfl | rfl
      case inr =>
        rw [if_neg (by decide)] at HAT
        have HNx := rnext_ok w9 tag9 base o' p.M s.n t1.pos t1.used (bodies t1) (cntL t1.recs s.n) q HQ9.out (by omega)
        go_wp2_with fail
        refine HNx.mono ?_
        rintro e w10 ⟨rfl, hq10, hS10⟩
        have HPost : Hid (RAppPost w tag base o o' s p.M t q.T b w10) := ⟨p9, q, tag9, hM9, rfl, by rw [HAS.out]; exact HP9.out.other hS10 ho, by rw [HAT.out]; exact hq10, HSt9.out.trans (hS10.two2 o)⟩
        clear HNx hq10 hS10 HQ9 HP9 HSt9 HV9
        go_wp2
        go_ret
        exact ⟨by rw [HAE.out]; rfl, HPost.out⟩
      rw [if_pos rfl] at HAT
      have HBas9 : Hid (base ≤ w9.heap.size) := Nat.le_trans HBA.out HSt9.out.below.size
      obtain ⟨g10, h10⟩ := HQ9.out.byte (t1.used + (b.length + 7))
      have e2 := HQ9.out.t2
      have f2 := HQ9.out.fT 2
      have HM10 : Hid (MS (w9.setCell ⟨q.T, 2, none⟩ (.int .i64 ((t1.used + (b.length + 7) : Nat) : Int))) tag9 base o' p.M s.n t1.pos (t1.used + (b.length + 7)) (bodies t1) (cntL t1.recs s.n) q ∧ Step tag9 tag9 base o' w9 (w9.setCell ⟨q.T, 2, none⟩ (.int .i64 ((t1.used + (b.length + 7) : Nat) : Int)))) := ⟨g10, h10⟩
      obtain ⟨w10, hw10⟩ : ∃ w10, w10 = w9.setCell ⟨q.T, 2, none⟩ (.int .i64 ((t1.used + (b.length + 7) : Nat) : Int)) := ⟨_, rfl⟩
      rw [← hw10] at HM10
      have HW10 : Hid (w9.setCell ⟨q.T, 2, none⟩ (.int .i64 ((t1.used : Int) + ((b.length : Int) + 7))) = w10) := by show _ = _; rw [hw10]; rfl
      clear g10 h10 hw10
      go_wp2_with fail
      rw [HW10.out]
      clear HW10 e2 f2
      have d1 := HM10.out.1.t1
      have d4 := HM10.out.1.t4
      have di := HM10.out.1.i t1.pos (by omega)
      have dfi := HM10.out.1.fI t1.pos
      have hcc : 0 ≤ (cntL t1.recs s.n).getD t1.pos 0 ∧ (cntL t1.recs s.n).getD t1.pos 0 ≤ 900000 := by
        rw [cntL_get _ _ _ (by omega)]
        have := List.countP_le_length (p := fun x : Nat × List Int => x.1 == t1.pos) (l := t1.recs)
        rw [hf3] at this ⊢
        omega
      obtain ⟨hcc0, hcc1⟩ := hcc
      obtain ⟨g11, h11⟩ := HM10.out.1.count t1.pos ((cntL t1.recs s.n).getD t1.pos 0 + 1)
      rw [← cntL_snoc t1.recs s.n t1.pos b (by omega)] at g11
      have HM11 : Hid (MS (w10.setCell ⟨q.I, t1.pos, none⟩ (.int .i64 ((cntL t1.recs s.n).getD t1.pos 0 + 1))) tag9 base o' p.M s.n t1.pos (t1.used + (b.length + 7)) (bodies t1) (cntL (t1.recs ++ [(t1.pos, b)]) s.n) q ∧ Step tag9 tag9 base o' w9 (w10.setCell ⟨q.I, t1.pos, none⟩ (.int .i64 ((cntL t1.recs s.n).getD t1.pos 0 + 1)))) := ⟨g11, HM10.out.2.trans h11⟩
      have hposn : (t1.pos : Int) < (s.n : Int) := by omega
      generalize (cntL t1.recs s.n).getD t1.pos 0 = C at *
      clear g11 h11 HM10
      go_wp2_with fail
      go_region
      all_goals
        have hq12 := HM11.out.1.later (Below.refl _ _).drew
        have HS12 := HM11.out.2.drewN 1
        obtain ⟨w12, hw12⟩ : ∃ w12, w12 = (w10.setCell ⟨q.I, t1.pos, none⟩ (.int .i64 (C + 1))).drew := ⟨_, rfl⟩
        rw [← hw12] at hq12 ⊢
        have hS12 : Step tag9 tag9 base o' w9 w12 := by rw [hw12]; exact HS12
        have HV12 : Hid (Held w12 tag9 (.slice va b.length vc) b) := HV9.out.step hS12 ho2
        have HP12 : Hid (MD w12 tag9 base o s9 p9) := HP9.out.other hS12 ho
        have HSt12 : Hid (Step2 tag tag9 base o o' w w12) := HSt9.out.trans (hS12.two2 o)
        have HBas12 : Hid (base ≤ w12.heap.size) := Nat.le_trans HBas9.out hS12.below.size
        clear HM11 HS12 hS12 hw12 HV9 HP9 HSt9 HBas9 HQ9 d1 d4 di dfi hcc0 hcc1 hposn
        have hB12 : Below w12.heap.size w12 w12.drew := (Below.refl _ _).drew
        have HC := copy_bts w12.drew _ b (HV12.out.1.later hB12) (by omega)
        have d3 := hq12.t3
        have hTlt12 : q.T < w12.heap.size := hq12.bT.lt
        obtain ⟨ra, rc, hrv⟩ := win_shape hq12.wL
        have hbl : (bodies t1).length ≤ 900000 := by rw [bodies_len, hf3]; exact hrec
        have HRV : Hid (q.lv = .slice ra (bodies t1).length rc) := hrv
        have HAP : Hid (∀ w14 ua uc, Owns w14 w12.heap.size (.slice ua b.length uc) b → Below w12.heap.size w12.drew w14 → ∀ v' w16, (w14.alloc (.cells #[.slice ua b.length uc] 39)).grownBy w16 (Value.slice ra (bodies t1).length rc).ownBlock → (v'.ownBlock = (Value.slice ra (bodies t1).length rc).ownBlock ∨ v'.ownBlock = some (w14.alloc (.cells #[.slice ua b.length uc] 39)).heap.size) →
            Win w16 1 v' ((bodies t1).length + 1) (q.vs ++ [.slice ua b.length uc]) → RAppPost w tag base o o' s p.M t q.T b (w16.setCell ⟨q.T, 3, none⟩ v') ∧ w16.cell? ⟨q.T, 3, none⟩ = some q.lv ∧ w16.frozen? ⟨q.T, 3, none⟩ = false) := by
          intro w14 ua uc hO hB14 v' w16 hg ha hw
          have hB1214 : Below w12.heap.size w12 w14 := hB12.trans hB14
          have hS14 := step_over tag9 base o' (16 * o' + 9) HBas12.out hB1214
          have hq14 := hq12.keep (w' := w14) (tag' := tagOver tag9 w12.heap.size (16 * o' + 9)) (fun k hk _ => hB1214.block k hk) hS14.tags hB1214.size
          rw [← HRV.out] at hg ha
          obtain ⟨tag', e1, e2, _⟩ := hq14.pushed (Nat.le_trans HBas12.out hB1214.size) (below_alloc w14 (.cells #[.slice ua b.length uc] 39)) b _ v' (hO.bts hbb)
            (fun g hg' => ⟨tagOver_ge _ _ _ _ (hO.lt g hg').1, Nat.le_trans HBas12.out (hO.lt g hg').1, (hO.lt g hg').2⟩) hg ha hw
          have hSall := (HSt12.out.trans (hS14.two2 o)).trans (e2.two2 o)
          have hne : q.lv.ownBlock ≠ some q.T := fun e => by have := (hq14.tL _ e).1; rw [hq14.tT.1] at this; omega
          have hblk : Blk w16 q.T _ := hq14.bT.same ((hg.block q.T (by simp; have := hq14.bT.lt; omega) (fun e => hne e.symm)).trans ((below_alloc w14 _).block q.T hq14.bT.lt))
          refine ⟨⟨p9, ⟨q.T, v', q.vs ++ [.slice ua b.length uc], q.I⟩, tag', hM9, rfl, ?_, ?_, hSall⟩, hblk.cell 3, hblk.frozen 3⟩
          · rw [HAS.out]
            exact (HP12.out.other hS14 ho).other e2 ho
          · rw [HAT.out]
            have hbod : bodies (t1.added b) = bodies t1 ++ [b] := by simp [bodies, Sd.added]
            show MS _ _ _ _ _ _ _ _ (bodies (t1.added b)) _ _
            rw [hbod]
            exact e1
        have HWn : Hid (∀ w14, Below w12.heap.size w12.drew w14 → Win w14 1 (.slice ra (bodies t1).length rc) (bodies t1).length q.vs) := by
          intro w14 hB14
          rw [← HRV.out]
          exact (hq12.wL.later hB12).later hB14
        rw [hrv] at d3 HAP
        obtain ⟨i0, hi, hz0, hz1, hz2⟩ := info_parts infoB
        generalize (bodies t1).length = rn at *
        clear hrv hq12 HV12 HP12 HSt12 HBas12 HRV
        go_wp2_with fail
        go_region_law (first
          | (refine step_call1 rfl 105 (.tmp 152) 39 rfl (.slice va b.length vc) (by go_simp) enters_copy (by with_reducible exact HC) ?_; rintro e w14 ⟨u, rfl, hO, hB14⟩; refine ⟨_, rfl, ?_⟩; obtain ⟨ua, uc, rfl, _⟩ := bts_src (hO.bts hbb); have d3' := cell_later (hB12.trans hB14) d3; have hsz14 : q.T < w14.heap.size := Nat.lt_of_lt_of_le hTlt12 hB14.size; have hwn14 := HWn.out w14 hB14)
          | (refine step_win_append rfl (.tmp 151) (.tmp 154) 79 rfl 39 i0 (.slice none 0 0) 1 24 Tryz.underlying79 hi hz0 hz1 hz2 rfl (by decide) (.slice ra rn rc) rn q.vs (by rfl) (by exact hwn14.later (below_alloc w14 _)) ⟨w14.heap.size, 0, none⟩ 1 1 [.slice ua b.length uc] (by rfl) rfl (by exact news_new w14 #[.slice ua b.length uc] 39) (by intro u hu; simp at hu; subst hu; rfl) (by unfold maxLen; omega) (by omega) ?_; intro v' w16 hwin hgrow hat; obtain ⟨va', vc', hvv⟩ := win_shape hwin; subst hvv; obtain ⟨hAP, g4, g5⟩ := HAP.out w14 ua uc hO hB14 _ w16 hgrow hat hwin))
        all_goals
          go_wp2
          go_ret
          exact ⟨by rw [HAE.out]; rfl, hAP⟩

end Go.Proofs.YtafkkehcacdodaaGreat

namespace Go.Proofs.YtafkkehcacdodaaGreat
open Go.RowKit

def cntN (rs : List (Nat × List Int)) (i : Nat) : Nat := rs.countP fun x => x.1 == i
def segCi (rs : List (Nat × List Int)) (i j : Nat) : Nat := rs.countP fun x => x.1 / 16 == j && decide (x.1 < i)

theorem segCi_step (rs : List (Nat × List Int)) (i j : Nat) : segCi rs (i + 1) j = segCi rs i j + if i / 16 = j then cntN rs i else 0 := by
  unfold segCi cntN
  induction rs with
  | nil => simp
  | cons x rs ih =>
    rw [List.countP_cons, List.countP_cons, List.countP_cons, ih]
    by_cases h1 : x.1 = i
    · subst h1
      by_cases h2 : x.1 / 16 = j
      · simp [h2]; omega
      · simp [h2]
    · by_cases h2 : x.1 / 16 = j
      · by_cases h3 : x.1 < i
        · simp [h1, h2, h3, show x.1 < i + 1 by omega]; split <;> omega
        · simp [h1, h2, h3, show ¬ x.1 < i + 1 by omega]
      · simp [h1, h2]

theorem segCi_zero (rs : List (Nat × List Int)) (i j : Nat) (h : i ≤ 16 * j) : segCi rs i j = 0 := by
  unfold segCi
  rw [List.countP_eq_zero]
  intro x _
  simp
  omega

theorem segCi_all (rs : List (Nat × List Int)) (n j : Nat) (h : ∀ x ∈ rs, x.1 < n) : segCi rs n j = segC rs j := by
  unfold segCi segC
  apply List.countP_congr
  intro x hx
  have := h x hx
  simp [this]

def outI (rs : List (Nat × List Int)) (i : Nat) : List Int := (List.range ((i + 15) / 16)).map fun j => (segCi rs i j : Int)
def outP (rs : List (Nat × List Int)) (i : Nat) : List Int := if i % 16 = 0 then outI rs i ++ [0] else outI rs i

theorem outI_len (rs : List (Nat × List Int)) (i : Nat) : (outI rs i).length = (i + 15) / 16 := by simp [outI]
theorem outP_len (rs : List (Nat × List Int)) (i : Nat) : (outP rs i).length = i / 16 + 1 := by
  unfold outP
  split
  · rw [List.length_append, outI_len, List.length_singleton]; omega
  · rw [outI_len]; omega

theorem outI_get (rs : List (Nat × List Int)) (i j : Nat) (h : j < (i + 15) / 16) : (outI rs i).getD j 0 = segCi rs i j := by
  simp [outI, List.getD, h]

theorem outP_get (rs : List (Nat × List Int)) (i j : Nat) (h : j < i / 16 + 1) : (outP rs i).getD j 0 = segCi rs i j := by
  unfold outP
  split
  · rename_i h0
    by_cases hj : j < (i + 15) / 16
    · rw [getD_app_left _ _ _ (by rw [outI_len]; exact hj), outI_get _ _ _ hj]
    · rw [getD_app_right _ _ _ (by rw [outI_len]; omega), outI_len, segCi_zero _ _ _ (by omega), show j - (i + 15) / 16 = 0 by omega]
      rfl
  · rw [outI_get _ _ _ (by omega)]

theorem outI_step (rs : List (Nat × List Int)) (i : Nat) : (outP rs i).set (i / 16) ((outP rs i).getD (i / 16) 0 + (cntN rs i : Int)) = outI rs (i + 1) := by
  apply List.ext_getElem
  · rw [List.length_set, outP_len, outI_len]; omega
  · intro j h1 h2
    rw [List.length_set, outP_len] at h1
    rw [List.getElem_set]
    have e1 : (outI rs (i + 1))[j] = (segCi rs (i + 1) j : Int) := by simp [outI]
    have e2 : (outP rs i)[j]'(by rw [outP_len]; exact h1) = (segCi rs i j : Int) := by
      rw [← outP_get rs i j h1]; simp [List.getD, List.getElem?_eq_getElem (show j < (outP rs i).length by rw [outP_len]; exact h1)]
    rw [e1, segCi_step]
    by_cases e : i / 16 = j
    · rw [if_pos e, if_pos e, e, outP_get rs i j h1]; omega
    · rw [if_neg e, if_neg e, e2]; omega

def mostI (rs : List (Nat × List Int)) : Nat → Nat
  | 0 => 0
  | i + 1 => if 0 < cntN rs i then i / 16 + 1 else mostI rs i

theorem cnt_pos (rs : List (Nat × List Int)) (i : Nat) : 0 < cntN rs i ↔ ∃ x ∈ rs, x.1 = i := by
  unfold cntN
  rw [List.countP_pos_iff]
  simp

theorem most_bounds (rs : List (Nat × List Int)) : ∀ i, (∀ x ∈ rs, x.1 < i → x.1 / 16 + 1 ≤ mostI rs i) ∧ (mostI rs i = 0 ∨ ∃ x ∈ rs, x.1 < i ∧ x.1 / 16 + 1 = mostI rs i) ∧ mostI rs i ≤ (i + 15) / 16 := by
  intro i
  induction i with
  | zero => exact ⟨fun x _ h => by omega, .inl rfl, Nat.zero_le _⟩
  | succ i ih =>
    obtain ⟨h1, h2, h3⟩ := ih
    unfold mostI
    by_cases hc : 0 < cntN rs i
    · rw [if_pos hc]
      obtain ⟨x, hx, rfl⟩ := (cnt_pos rs i).1 hc
      exact ⟨fun y _ hy => by omega, .inr ⟨x, hx, by omega, rfl⟩, by omega⟩
    · rw [if_neg hc]
      refine ⟨fun x hx hlt => ?_, ?_, by omega⟩
      · by_cases e : x.1 = i
        · exact absurd ((cnt_pos rs i).2 ⟨x, hx, e⟩) hc
        · exact h1 x hx (by omega)
      · rcases h2 with h2 | ⟨x, hx, h4, h5⟩
        · exact .inl h2
        · exact .inr ⟨x, hx, by omega, h5⟩

theorem fold_le (rs : List (Nat × List Int)) (m : Nat) (h : ∀ x ∈ rs, x.1 / 16 + 1 ≤ m) : ∀ k, k ≤ m → rs.foldl (fun m x => max m (x.1 / 16 + 1)) k ≤ m := by
  induction rs with
  | nil => intro k hk; exact hk
  | cons x rs ih =>
    intro k hk
    have := h x (by simp)
    exact ih (fun y hy => h y (by simp [hy])) _ (by show max k (x.1 / 16 + 1) ≤ m; omega)

theorem most_all (rs : List (Nat × List Int)) (n : Nat) (h : ∀ x ∈ rs, x.1 < n) : mostI rs n = segM rs := by
  obtain ⟨h1, h2, _⟩ := most_bounds rs n
  have a : segM rs ≤ mostI rs n := fold_le rs _ (fun x hx => h1 x hx (h x hx)) 0 (Nat.zero_le _)
  rcases h2 with h2 | ⟨x, hx, _, h3⟩
  · omega
  · have := segM_ge rs 0 x hx
    unfold segM at a ⊢
    omega

theorem seg_all (rs : List (Nat × List Int)) (n : Nat) (h : ∀ x ∈ rs, x.1 < n) : (outI rs n).take (mostI rs n) = segL rs := by
  have hm := (most_bounds rs n).2.2
  rw [most_all rs n h] at hm ⊢
  unfold outI segL
  rw [← List.map_take, List.take_range, Nat.min_eq_left hm]
  apply List.map_congr_left
  intro j _
  rw [segCi_all rs n j h]

theorem cnt_le (rs : List (Nat × List Int)) (i : Nat) : cntN rs i ≤ rs.length := List.countP_le_length
theorem segCi_le (rs : List (Nat × List Int)) (i j : Nat) : segCi rs i j ≤ rs.length := List.countP_le_length

theorem cntL_cnt (rs : List (Nat × List Int)) (n k : Nat) (h : k < n) : (cntL rs n).getD k 0 = (cntN rs k : Int) := cntL_get rs n k h

end Go.Proofs.YtafkkehcacdodaaGreat

namespace Go.Proofs.YtafkkehcacdodaaGreat
open Go.RowKit
attribute [local go_sem ↓] Go.wp_at_zero Go.wp_at_succ

/-- A row of numbers, wherever it lies. -/
def WinI (w : World) (v : Value) (l : List Int) : Prop := Win w 1 v l.length (l.map (Value.int .i64))

theorem OwnI.win {w : World} {base : Nat} {v : Value} {l : List Int} (h : OwnI w base v l) : WinI w v l := win_of_owns h

theorem WinI.later {w w' : World} {v : Value} {l : List Int} (h : WinI w v l) (hb : Below w.heap.size w w') : WinI w' v l := Win.later h hb

theorem WinI.read {w : World} {v : Value} {l : List Int} (h : WinI w v l) (hne : 0 < l.length) : ∃ B O c, v = .slice (some ⟨B, O, none⟩) l.length c ∧ l.length ≤ c ∧ c ≤ maxLen ∧ ∀ i, i < l.length → w.cell? ⟨B, O + i, none⟩ = some (.int .i64 (l.getD i 0)) := by
  rcases h.2 with ⟨_, h0⟩ | ⟨B, O, c, cs, e, hb, h2, h3, h4, h5⟩
  · omega
  refine ⟨B, O, c, e, h2, h3, fun i hi => ?_⟩
  exact hb.range O (l.length * 1) i (.int .i64 (l.getD i 0)) (by rw [h5]; simp [List.getD, List.getElem?_eq_getElem hi])

theorem app_getD {α : Type} (l m : List α) (d : α) (i : Nat) : (l ++ m).getD i d = if i < l.length then l.getD i d else m.getD (i - l.length) d := by
  split
  · rename_i h; simp only [List.getD, List.getElem?_append_left h]
  · rename_i h; simp only [List.getD, List.getElem?_append_right (Nat.not_lt.1 h)]

/-- A row of slices behind another one. -/
theorem Lst.join {w w1 : World} {base : Nat} {v u : Value} {vs us : List Value} {ls ms : List (List Int)} (h : Lst w base v vs ls) (hB : Below w.heap.size w w1) (hu : Lst w1 w.heap.size u us ms) (hbase : base ≤ w.heap.size) (hn : ls.length + ms.length ≤ 1000000) :
    ∃ v' w3, (Builtin.append_ #[79, 79] 79 #[v, u]).run Tryz.prog w1 = .ok v' w3 ∧ Lst w3 base v' (vs ++ us) (ls ++ ms) ∧ w1.grownBy w3 v.ownBlock ∧ ∃ a c, v' = .slice a (ls.length + ms.length) c := by
  obtain ⟨i0, hi, hz0, hz1, hz2⟩ := info_parts infoB
  have hL := h.later hB
  obtain ⟨au, cu, rfl⟩ := win_shape hu.win
  have hvl : vs.length = ls.length := by have := h.win.1; omega
  have hul : us.length = ms.length := by have := hu.win.1; omega
  have hsrc : (∃ ad, au = some ad ∧ ∀ j x, us[j]? = some x → w1.cell? (ad.add j) = some x) ∨ ms.length = 0 := by
    by_cases h0 : ms.length = 0
    · exact .inr h0
    · left
      obtain ⟨B, O, c, e, _, _, hc⟩ := hu.read (by omega)
      injection e with ea _ ec
      subst ea
      refine ⟨_, rfl, fun j x hj => ?_⟩
      have hjl := (List.getElem?_eq_some_iff.1 hj).1
      rw [add_at, hc j (by omega)]
      simp [List.getD, hj]
  obtain ⟨v', w3, hr, hw, hgr, hat⟩ := win_append (P := Tryz.prog) w1 79 79 39 i0 (.slice none 0 0) 1 24 Tryz.underlying79 hi hz0 hz1 hz2 rfl (by decide) v ls.length vs hL.win
    au ms.length cu us (by omega) hsrc (by
      intro x hx
      obtain ⟨j, hj⟩ := List.getElem?_of_mem hx
      have hjl := (List.getElem?_eq_some_iff.1 hj).1
      have := hu.bts j (by omega)
      rw [List.getD, hj] at this
      exact one_of_bts this) (by unfold maxLen; omega) (by omega)
  have hs3 := hgr.size
  have hs1 := hB.size
  refine ⟨v', w3, hr, ?_, hgr, win_shape hw⟩
  have hkeep : ∀ (y : Value) (l : List Int), Bts w1 y l → (∀ g, y.ownBlock = some g → v.ownBlock ≠ some g) → Bts w3 y l := fun y l hy hne =>
    bts_same hy (fun g hg hlt => hgr.block g hlt (fun e => hne g hg e.symm))
  refine ⟨by rw [List.length_append]; exact hw, ?_, ?_, ?_⟩
  · intro g hg'
    rcases hat with e | e
    · rw [e] at hg'; exact h.blk g hg'
    · rw [e] at hg'; simp at hg'; omega
  · intro i hi
    rw [List.length_append] at hi
    rw [app_getD, app_getD, hvl]
    split
    · rename_i hil
      exact hkeep _ _ (hL.bts i hil) (fun g hg => (h.ent i hil g hg).2.2)
    · rename_i hil
      refine hkeep _ _ (hu.bts (i - ls.length) (by omega)) (fun g hg' e => ?_)
      have := h.win.lt g e
      have := (hu.ent (i - ls.length) (by omega) g hg').1
      omega
  · intro i hi g hg'
    rw [List.length_append] at hi
    rw [app_getD, hvl] at hg'
    split at hg'
    · rename_i hil
      obtain ⟨e1, e2, e3⟩ := h.ent i hil g hg'
      refine ⟨e1, by omega, ?_⟩
      rcases hat with e | e
      · rw [e]; exact e3
      · rw [e]; intro e'; simp at e'; omega
    · rename_i hil
      obtain ⟨e1, e2, e3⟩ := hu.ent (i - ls.length) (by omega) g hg'
      refine ⟨by omega, by omega, ?_⟩
      rcases hat with e | e
      · rw [e]; intro e'; have := h.win.lt g e'; omega
      · rw [e]; intro e'; simp at e'; omega

end Go.Proofs.YtafkkehcacdodaaGreat

namespace Go.Proofs.YtafkkehcacdodaaGreat
open Go.RowKit
attribute [local go_sem ↓] Go.wp_at_zero Go.wp_at_succ

/-- A row's beginning. -/
theorem own_take {w : World} {base g n cap : Nat} {l : List Int} (h : OwnI w base (.slice (some ⟨g, 0, none⟩) n cap) l) (hn : l.length = n) (m : Nat) (hm : m ≤ n) : WinI w (.slice (some ⟨g, 0, none⟩) m cap) (l.take m) := by
  unfold OwnI at h
  rw [hn] at h
  rcases h.2 with ⟨h0, _⟩ | ⟨g', cap', cur, e, _, hg, h1, h2, h3, h4⟩
  · cases h0
  · simp only [Value.slice.injEq, Option.some.injEq, Addr.mk.injEq, and_true, true_and] at e
    obtain ⟨rfl, rfl⟩ := e
    have hl : (l.take m).length = m := by rw [List.length_take]; omega
    unfold WinI
    rw [hl]
    refine ⟨by simp; omega, .inr ⟨g, 0, cap, cur.toList, rfl, ⟨3, by simpa using hg⟩, by omega, h2, by simp [h3], ?_⟩⟩
    rw [List.drop_zero, List.map_take, ← h4, List.take_take]
    congr 1
    omega

end Go.Proofs.YtafkkehcacdodaaGreat

namespace Go.Proofs.YtafkkehcacdodaaGreat
open Go.RowKit
attribute [local go_sem ↓] Go.wp_at_zero Go.wp_at_succ

theorem rappend_any (w : World) (tag : Nat → Nat) (base o o' : Nat) (ho : o ≠ o') (ho1 : 1 ≤ o) (ho2 : 1 ≤ o') (s : St) (p : ML) (h : MD w tag base o s p) (t : Sd) (q : TL) (M T : Nat) (hM : p.M = M) (hT : q.T = T) (hq : MSt w tag base o' M s.n t q) (hbase : base ≤ w.heap.size) (ht : t.Ok s.n) (v : Value) (b : List Int) (hv : Bts w v b) (hvh : b ≠ [] → Held w tag v b)
    (hops : s.ops ≤ 1000000) (hout : s.outs.length ≤ 1000000) (hsin : s.since.length ≤ 1000000) (hrec : t.recs.length ≤ 900000) :
    Calls Tryz.prog 80 #[.pointer (some ⟨T, 0, none⟩), v] w fun e w' => e = .returned (.int .i64 (appE s t b)) ∧ RAppPost w tag base o o' s M t T b w' := by
  subst hM; subst hT
  by_cases hE : frameE b = 0
  · exact rappend_ok8 w tag base o o' ho ho1 ho2 s p h t q hq hbase ht v b (hvh (fun e => by rw [e] at hE; cases hE)) hE hops hout hsin hrec
  · exact rappend_no w tag base o o' s p h t q hq v b hv hE

theorem rread_okJ (w : World) (tag : Nat → Nat) (base o : Nat) (s : St) (p : ML) (h : MD w tag base o s p) (k : Nat) (hk : k < s.n) (l : List Int) (hl : sec s.now k = l) (M : Nat) (hM : p.M = M) :
    Calls Tryz.prog 73 #[.pointer (some ⟨M, 0, none⟩), .int .i64 k] w fun e w' => ∃ v, e = .returned (.tuple #[v, .int .i64 0]) ∧ Bts w' v l ∧ Below w.heap.size w w' := by
  subst hM; subst hl
  refine (rread_ok w tag base o s p h k hk).mono ?_
  rintro e w' ⟨v, rfl, hO, hB⟩
  exact ⟨v, rfl, hO.bts (sec_bytes h.ok.nb k), hB⟩

end Go.Proofs.YtafkkehcacdodaaGreat

namespace Go.Proofs.YtafkkehcacdodaaGreat
open Go.RowKit

/-- What holds of a strand on its disk. -/
structure SvF (F : Nat) (s : St) (t : Sd) (G : List Tr) : Prop where
  srt : G.Pairwise (fun x y => x.pl ≤ y.pl)
  plc : ∀ x ∈ G, x.pl ≤ t.pos ∧ x.pl < s.n
  bd : ∀ x ∈ G, isBytes x.b ∧ 1 ≤ x.b.length ∧ x.b.length ≤ 56
  flo : ∀ x ∈ G, F ≤ x.pl
  fl : F ≤ t.pos
  sc : ∀ k, F ≤ k → k < s.n → ∃ c, SecI s k (inSec G k) c
  hr : t.pos < s.n → sec s.now t.pos = cutC (flatB (inSec G t.pos)) (flatB (inSec G t.pos)).length ∧ (flatB (inSec G t.pos)).length = t.used

theorem inSec_pastF {F : Nat} {s : St} {t : Sd} {G : List Tr} (h : SvF F s t G) (k : Nat) (hk : t.pos < k) : inSec G k = [] := by
  unfold inSec
  rw [List.filter_eq_nil_iff]
  intro x hx
  have := (h.plc x hx).1
  simp; omega

theorem SvF.leave {F : Nat} {s : St} {t : Sd} {G : List Tr} (h : SvF F s t G) : SvF F s t.leave G := by
  refine ⟨h.srt, fun x hx => ⟨by have := (h.plc x hx).1; simp [Sd.leave]; omega, (h.plc x hx).2⟩, h.bd, h.flo, by have := h.fl; simp [Sd.leave]; omega, h.sc, fun hp => ?_⟩
  have e := inSec_pastF h t.leave.pos (by simp [Sd.leave])
  obtain ⟨c, hc⟩ := h.sc t.leave.pos (by have := h.fl; simp [Sd.leave]; omega) hp
  rw [e] at hc ⊢
  refine ⟨?_, rfl⟩
  rw [hc.nw]
  exact cut_nil _ hc.top

theorem SvF.fit {F : Nat} {s : St} {t : Sd} {G : List Tr} (h : SvF F s t G) (b : List Int) : SvF F s (t.fit b) G := by
  unfold Sd.fit
  split
  · exact h.leave
  · exact h

theorem SvF.add {F : Nat} {s : St} {t : Sd} {G : List Tr} (h : SvF F s t G) (l : List Int) : SvF F (s.add l) t G :=
  ⟨h.srt, h.plc, h.bd, h.flo, h.fl, fun k hF hk => by obtain ⟨c, hc⟩ := h.sc k hF hk; exact ⟨c, hc.sr, hc.nw, hc.mono, hc.top, hc.wr, hc.skip, hc.usu, hc.ufi, hc.f64⟩, h.hr⟩

theorem SvF.took {F : Nat} {s : St} {t : Sd} {G : List Tr} (h : SvF F s t G) : SvF F s.take t G :=
  ⟨h.srt, h.plc, h.bd, h.flo, h.fl, fun k hF hk => by obtain ⟨c, hc⟩ := h.sc k hF hk; exact ⟨c, hc.take⟩, h.hr⟩

theorem SvF.settled {F : Nat} {s : St} {t : Sd} {G : List Tr} (h : SvF F s t G) : SvF F s.settled t G :=
  ⟨h.srt, h.plc, h.bd, h.flo, h.fl, fun k hF hk => by obtain ⟨c, hc⟩ := h.sc k hF hk; exact ⟨_, hc.settled⟩, h.hr⟩

theorem SvF.surely {F : Nat} {s : St} {t : Sd} {G : List Tr} (h : SvF F s.settled t G) : SvF F s.settled t (G.map Tr.sured) := by
  refine ⟨?_, ?_, ?_, ?_, h.fl, fun k hF hk => ?_, fun hp => ?_⟩
  · rw [List.pairwise_map]; exact h.srt
  · intro x hx
    obtain ⟨y, hy, rfl⟩ := List.mem_map.1 hx
    exact h.plc y hy
  · intro x hx
    obtain ⟨y, hy, rfl⟩ := List.mem_map.1 hx
    exact h.bd y hy
  · intro x hx
    obtain ⟨y, hy, rfl⟩ := List.mem_map.1 hx
    exact h.flo y hy
  · obtain ⟨c, hc⟩ := h.sc k hF hk
    rw [inSec_sured]
    exact ⟨c, hc.surely⟩
  · rw [inSec_sured, flat_sured]; exact h.hr hp

theorem SvF.sync {F : Nat} {s : St} {t : Sd} {G : List Tr} (h : SvF F s t G) : SvF F s.sync (synT s t) (synG s G) := by
  unfold synG synT
  by_cases e : errC s.out = 0
  · have hs : s.sync = s.take.settled := by unfold St.sync; rw [if_pos (done_of_err e)]
    rw [if_pos e, if_neg (by simp [e]), hs]
    exact h.took.settled.surely
  · rw [if_neg e]
    have hs : SvF F s.sync t G := by
      unfold St.sync
      split
      · exact h.took.settled
      · exact h.took
    split
    · exact hs.leave
    · exact hs

theorem SvF.put {F : Nat} {s : St} {t : Sd} {G : List Tr} (h : SvF F s t G) (ho : s.Ok) (b : List Int) (hb : isBytes b) (h1 : 1 ≤ b.length) (h2 : b.length ≤ 56) (hp : t.pos < s.n) (hu : t.used + (b.length + 7) ≤ 64) :
    SvF F (s.write t.pos (withB (sec s.now t.pos) t.used (frameB b))) (if errC s.out = 0 then t.added b else t.leave) (G ++ [⟨t.pos, b, decide (errC s.out = 0), false⟩]) := by
  obtain ⟨hr1, hr2⟩ := h.hr hp
  obtain ⟨x, hx⟩ : ∃ x : Tr, x = ⟨t.pos, b, decide (errC s.out = 0), false⟩ := ⟨_, rfl⟩
  rw [← hx]
  have hxp : x.pl = t.pos := by rw [hx]
  have hxb : x.b = b := by rw [hx]
  have hxs : x.su = false := by rw [hx]
  have hxf : x.fi = decide (errC s.out = 0) := by rw [hx]
  clear hx
  have hfl := frameB_len b
  have hF : (flatB (inSec G t.pos ++ [x])).length = t.used + (b.length + 7) := by rw [flat_snoc, List.length_append, hr2, hxb, hfl]
  have hW : withB (sec s.now t.pos) t.used (frameB b) = cutC (flatB (inSec G t.pos ++ [x])) (flatB (inSec G t.pos ++ [x])).length := by
    rw [hF]
    unfold withB
    rw [hr1, flat_snoc, hxb]
    unfold cutC
    rw [List.take_of_length_le (Nat.le_refl _), ← hr2, List.take_left, List.take_of_length_le (by rw [List.length_append, hfl]; omega), hfl, Nat.sub_sub]
  have hWl := cut_len (flatB (inSec G t.pos ++ [x])) _ (Nat.le_refl _) (by omega)
  rw [hW]
  -- the rest of what holds
  have srt' : (G ++ [x]).Pairwise (fun x y => x.pl ≤ y.pl) := by
    rw [List.pairwise_append]
    refine ⟨h.srt, List.pairwise_singleton _ _, fun y hy z hz => ?_⟩
    rw [List.mem_singleton] at hz
    subst hz
    rw [hxp]
    exact (h.plc y hy).1
  have plc' : ∀ y ∈ G ++ [x], y.pl ≤ t.pos ∧ y.pl < s.n := by
    intro y hy
    rw [List.mem_append, List.mem_singleton] at hy
    rcases hy with hy | rfl
    · exact h.plc y hy
    · rw [hxp]; exact ⟨Nat.le_refl _, hp⟩
  have flo' : ∀ y ∈ G ++ [x], F ≤ y.pl := by
    intro y hy
    rw [List.mem_append, List.mem_singleton] at hy
    rcases hy with hy | rfl
    · exact h.flo y hy
    · rw [hxp]; exact h.fl
  have bd' : ∀ y ∈ G ++ [x], isBytes y.b ∧ 1 ≤ y.b.length ∧ y.b.length ≤ 56 := by
    intro y hy
    rw [List.mem_append, List.mem_singleton] at hy
    rcases hy with hy | rfl
    · exact h.bd y hy
    · rw [hxb]; exact ⟨hb, h1, h2⟩
  have hin : inSec (G ++ [x]) t.pos = inSec G t.pos ++ [x] := by rw [← hxp]; exact inSec_snoc_eq G x
  have hin2 : ∀ k, k ≠ t.pos → inSec (G ++ [x]) k = inSec G k := fun k hk => inSec_snoc_ne G x k (by rw [hxp]; exact hk)
  obtain ⟨c, hc⟩ := h.sc t.pos h.fl hp
  by_cases hd : doneB s.out = true
  · have hs : s.write t.pos (cutC (flatB (inSec G t.pos ++ [x])) (flatB (inSec G t.pos ++ [x])).length) = s.take.wrote t.pos (cutC (flatB (inSec G t.pos ++ [x])) (flatB (inSec G t.pos ++ [x])).length) := by unfold St.write; rw [if_pos hd]
    rw [hs]
    obtain ⟨c', hc', htop⟩ := hc.take.put ho.take hp x hxs (by omega)
    have hsc : ∀ k, F ≤ k → k < s.n → ∃ c, SecI (s.take.wrote t.pos (cutC (flatB (inSec G t.pos ++ [x])) (flatB (inSec G t.pos ++ [x])).length)) k (inSec (G ++ [x]) k) c := by
      intro k hF hk
      by_cases e : k = t.pos
      · rw [e, hin]; exact ⟨c', hc'⟩
      · rw [hin2 k e]
        obtain ⟨ck, hck⟩ := h.sc k hF hk
        exact hck.take.aside ho.take t.pos hp e _ hWl
    have hA : SvF F (s.take.wrote t.pos (cutC (flatB (inSec G t.pos ++ [x])) (flatB (inSec G t.pos ++ [x])).length)) (t.added b) (G ++ [x]) :=
      ⟨srt', plc', bd', flo', h.fl, hsc, fun _ => by
        show sec _ t.pos = cutC (flatB (inSec (G ++ [x]) t.pos)) (flatB (inSec (G ++ [x]) t.pos)).length ∧ (flatB (inSec (G ++ [x]) t.pos)).length = _
        rw [hin]
        refine ⟨?_, hF⟩
        exact sec_splice _ _ t.pos s.n ho.nl hWl hp⟩
    split
    · exact hA
    · have hL := hA.leave
      exact ⟨hL.srt, hL.plc, hL.bd, hL.flo, hL.fl, hL.sc, hL.hr⟩
  · have hs : s.write t.pos (cutC (flatB (inSec G t.pos ++ [x])) (flatB (inSec G t.pos ++ [x])).length) = s.take := by unfold St.write; rw [if_neg hd]
    have he : ¬ errC s.out = 0 := fun e => hd (done_of_err e)
    rw [hs, if_neg he]
    have hxf' : x.fi = false := by rw [hxf]; simp [he]
    have hsc : ∀ k, F ≤ k → k < s.n → ∃ c, SecI s.take k (inSec (G ++ [x]) k) c := by
      intro k hF hk
      by_cases e : k = t.pos
      · rw [e, hin]; exact ⟨c, hc.take.grow x hxf' hxs (by omega)⟩
      · rw [hin2 k e]
        obtain ⟨ck, hck⟩ := h.sc k hF hk
        exact ⟨ck, hck.take⟩
    refine ⟨srt', fun y hy => ⟨by have := (plc' y hy).1; simp [Sd.leave]; omega, (plc' y hy).2⟩, bd', flo', by have := h.fl; simp [Sd.leave]; omega, hsc, fun hp2 => ?_⟩
    have hp2' : t.pos + 1 < s.n := hp2
    have e : inSec (G ++ [x]) (t.pos + 1) = [] := by
      unfold inSec
      rw [List.filter_eq_nil_iff]
      intro y hy
      have := (plc' y hy).1
      simp; omega
    obtain ⟨c2, hc2⟩ := hsc (t.pos + 1) (by have := h.fl; omega) hp2'
    show sec _ (t.pos + 1) = cutC (flatB (inSec (G ++ [x]) (t.pos + 1))) (flatB (inSec (G ++ [x]) (t.pos + 1))).length ∧ (flatB (inSec (G ++ [x]) (t.pos + 1))).length = 0
    rw [e] at hc2 ⊢
    refine ⟨?_, rfl⟩
    rw [hc2.nw]
    exact cut_nil _ hc2.top

theorem SvF.app {F : Nat} {s : St} {t : Sd} {G : List Tr} (h : SvF F s t G) (ho : s.Ok) (ht : t.Ok s.n) (b : List Int) (hb : isBytes b) : SvF F (appS s t b) (appT s t b) (appG s t b G) := by
  unfold appS appT appG
  by_cases hE : frameE b = 0
  · have hE' : ¬ frameE b ≠ 0 := fun e => e hE
    rw [if_neg hE', if_neg hE', if_neg hE']
    have hl : 1 ≤ b.length ∧ b.length ≤ 56 := by
      unfold frameE at hE
      split at hE
      · cases hE
      · split at hE
        · cases hE
        · omega
    obtain ⟨_, f2, _⟩ := ht.fit b hE
    by_cases hn : s.n ≤ (t.fit b).pos
    · rw [if_pos hn, if_pos hn, if_pos hn]; exact h.fit b
    · rw [if_neg hn, if_neg hn, if_neg hn]
      exact (h.fit b).put ho b hb hl.1 hl.2 (by omega) f2
  · rw [if_pos hE, if_pos hE, if_pos hE]; exact h

/-- The bodies of the sectors ahead of one. -/
def bodK (now : List Int) (k : Nat) : List (List Int) := (openK now k).recs.map Prod.snd

theorem bodK_succ (now : List Int) (k : Nat) : bodK now (k + 1) = bodK now k ++ scanB (sec now k) := by
  simp only [bodK, openK, List.map_append, List.map_map]
  congr 1
  exact List.map_id _

theorem bodK_same {N N' : List Int} : ∀ k, (∀ j, j < k → sec N j = sec N' j) → bodK N k = bodK N' k := by
  intro k
  induction k with
  | zero => intro _; rfl
  | succ k ih =>
    intro h
    rw [bodK_succ, bodK_succ, ih (fun j hj => h j (by omega)), h k (by omega)]

theorem bodies_bodK (s : St) : bodies (openT s) = bodK s.now s.n := rfl

/-- What a disk may hold: each sector from the floor on cut off somewhere behind what is marked. -/
def Poss (f : Tr → Bool) (F : Nat) (s : St) (G : List Tr) (N : List Int) : Prop :=
  ∀ k, F ≤ k → k < s.n → ∃ a, sec N k = cutC (flatB (inSec G k)) a ∧ a ≤ (flatB (inSec G k)).length ∧ Upto f (inSec G k) a

theorem SvF.possC {F : Nat} {s : St} {t : Sd} {G : List Tr} (h : SvF F s t G) (ho : s.Ok) (ch : List Int) : Poss Tr.su F s G (s.crash ch).now := by
  intro k hF hk
  obtain ⟨c, hc⟩ := h.sc k hF hk
  obtain ⟨a, ha, h0, h1⟩ := hc.torn ho hk ch s.since.length (Nat.le_refl _)
  exact ⟨a, ha, Nat.le_trans h1 hc.top, hc.usu.le h0⟩

theorem SvF.possN {F : Nat} {s : St} {t : Sd} {G : List Tr} (h : SvF F s t G) : Poss Tr.su F s G s.now := by
  intro k hF hk
  obtain ⟨c, hc⟩ := h.sc k hF hk
  have h0 := hc.le s.since.length 0 (by omega)
  rw [Nat.zero_add] at h0
  exact ⟨_, hc.nw, hc.top, hc.usu.le h0⟩

theorem Poss.open {F : Nat} {s : St} {t : Sd} {G : List Tr} (h : SvF F s t G) {N : List Int} (hp : Poss Tr.su F s G N) : ∀ k, F ≤ k → k ≤ s.n → ∃ hh, bodK N k = bodK N F ++ hh ∧ Btw hh (G.filter fun x => decide (x.pl < k)) := by
  intro k
  induction k with
  | zero =>
    intro hF _
    have hF0 : F = 0 := by omega
    subst hF0
    have : (G.filter fun x => decide (x.pl < 0)) = [] := by rw [List.filter_eq_nil_iff]; intro x _; simp
    rw [this]
    exact ⟨[], by simp, .nil⟩
  | succ k ih =>
    intro hF hk
    by_cases hFk : F ≤ k
    · obtain ⟨hh, e1, e2⟩ := ih hFk (by omega)
      obtain ⟨a, ha, h1, h2⟩ := hp k hFk (by omega)
      rw [below_split G k h.srt]
      refine ⟨hh ++ scanB (sec N k), by rw [bodK_succ, e1, List.append_assoc], e2.append ?_⟩
      rw [ha]
      unfold cutC
      exact scan_cut _ a _ (fun x hx => h.bd x (List.mem_filter.1 hx).1) h1 h2
    · have hFk' : F = k + 1 := by omega
      subst hFk'
      have : (G.filter fun x => decide (x.pl < k + 1)) = [] := by
        rw [List.filter_eq_nil_iff]
        intro x hx
        have := h.flo x hx
        simp; omega
      rw [this]
      exact ⟨[], by simp, .nil⟩

/-- What is found. -/
theorem Poss.found {F : Nat} {s : St} {t : Sd} {G : List Tr} (h : SvF F s t G) (hF : F ≤ s.n) {N : List Int} (hp : Poss Tr.su F s G N) : ∃ hh, bodK N s.n = bodK N F ++ hh ∧ Btw hh G := by
  obtain ⟨hh, e1, e2⟩ := Poss.open h hp s.n hF (Nat.le_refl _)
  have e : (G.filter fun x => decide (x.pl < s.n)) = G := by
    rw [List.filter_eq_self]
    intro x hx
    have := (h.plc x hx).2
    simpa using this
  rw [e] at e2
  exact ⟨hh, e1, e2⟩

/-- Below the floor all is as it was. -/
structure Old (F : Nat) (N0 : List Int) (s : St) : Prop where
  su : ∀ k, k < F → k < s.n → sec s.sure k = sec N0 k
  nw : ∀ k, k < F → k < s.n → sec s.now k = sec N0 k
  sn : ∀ x ∈ s.since, F ≤ x.1

theorem Old.take {F : Nat} {N0 : List Int} {s : St} (h : Old F N0 s) : Old F N0 s.take := ⟨h.su, h.nw, h.sn⟩
theorem Old.add {F : Nat} {N0 : List Int} {s : St} (h : Old F N0 s) (l : List Int) : Old F N0 (s.add l) := ⟨h.su, h.nw, h.sn⟩
theorem Old.settled {F : Nat} {N0 : List Int} {s : St} (h : Old F N0 s) : Old F N0 s.settled := ⟨h.nw, h.nw, fun x hx => by cases hx⟩

theorem Old.sync {F : Nat} {N0 : List Int} {s : St} (h : Old F N0 s) : Old F N0 s.sync := by
  unfold St.sync
  split
  · exact h.take.settled
  · exact h.take

theorem Old.wrote {F : Nat} {N0 : List Int} {s : St} (h : Old F N0 s) (ho : s.Ok) (k : Nat) (hk : k < s.n) (hF : F ≤ k) (l : List Int) (hl : l.length = 64) : Old F N0 (s.wrote k l) := by
  refine ⟨h.su, fun j hj hj2 => ?_, fun x hx => ?_⟩
  · have := sec_other s.now l k j s.n ho.nl hk (by omega) (by omega)
    exact this.trans (h.nw j hj hj2)
  · have hx' : x ∈ s.since ++ [(k, l)] := hx
    rcases List.mem_append.1 hx' with hx' | hx'
    · exact h.sn x hx'
    · rw [List.mem_singleton.1 hx']; exact hF

theorem Old.app {F : Nat} {N0 : List Int} {s : St} (h : Old F N0 s) (ho : s.Ok) {t : Sd} (ht : t.Ok s.n) (hF : F ≤ t.pos) (b : List Int) : Old F N0 (appS s t b) := by
  unfold appS
  by_cases hE : frameE b ≠ 0
  · rw [if_pos hE]; exact h
  rw [if_neg hE]
  have hE' : frameE b = 0 := by simpa using hE
  obtain ⟨_, f2, _⟩ := ht.fit b hE'
  have hfl := frameB_len b
  have hpos : F ≤ (t.fit b).pos := by
    unfold Sd.fit
    split
    · simp [Sd.leave]; omega
    · exact hF
  split
  · exact h
  · rename_i hn
    have hs := sec_len ho.nl (show (t.fit b).pos < s.n by omega)
    have hW : (withB (sec s.now (t.fit b).pos) (t.fit b).used (frameB b)).length = 64 := withB_len _ _ _ hs (by omega)
    unfold St.write
    split
    · exact h.take.wrote ho.take _ (by show _ < s.n; omega) hpos _ hW
    · exact h.take

theorem Old.torn {F : Nat} {N0 : List Int} {s : St} (h : Old F N0 s) (ho : s.Ok) (ch : List Int) (k : Nat) (hk : k < F) (hkn : k < s.n) : ∀ i, i ≤ s.since.length → sec (Go.Proofs.YtafkkehcacdodaaGreat.torn ch s.sure s.since i) k = sec N0 k := by
  intro i
  induction i with
  | zero => intro _; exact h.su k hk hkn
  | succ i ih =>
    intro hi
    obtain ⟨w1, w2, _⟩ := wr_at ho i (by omega)
    have hln := (torn_len ho ch i (by omega)).1
    have hx := leftN_le ch i
    have hF : F ≤ (s.since.getD i (0, [])).1 := by
      have := h.sn (s.since.getD i (0, [])) (by rw [List.getD_eq_getElem?_getD, List.getElem?_eq_getElem (show i < s.since.length by omega)]; exact List.getElem_mem _)
      exact this
    show sec (splice (Go.Proofs.YtafkkehcacdodaaGreat.torn ch s.sure s.since i) _ _) k = _
    rw [sec_other _ _ _ k s.n hln w1 (by rw [List.length_take]; omega) (by omega)]
    exact ih (by omega)

theorem Old.crash {F : Nat} {N0 : List Int} {s : St} (h : Old F N0 s) (ho : s.Ok) (ch : List Int) (k : Nat) (hk : k < F) (hkn : k < s.n) : sec (s.crash ch).now k = sec N0 k :=
  h.torn ho ch k hk hkn s.since.length (Nat.le_refl _)

theorem open_blank (now : List Int) : ∀ k j, (openK now k).pos ≤ j → j < k → allz (sec now j) = true := by
  intro k
  induction k with
  | zero => intro j _ h; omega
  | succ k ih =>
    intro j h1 h2
    have hp : (openK now (k + 1)).pos = if allz (sec now k) then (openK now k).pos else k + 1 := rfl
    rw [hp] at h1
    split at h1
    · rename_i hz
      by_cases e : j = k
      · rw [e]; exact hz
      · exact ih j h1 (by omega)
    · omega

theorem allz_zeros {l : List Int} (h : allz l = true) : l = zeros l.length := by
  unfold allz at h
  unfold zeros
  rw [List.eq_replicate_iff]
  refine ⟨rfl, fun x hx => ?_⟩
  have := List.all_eq_true.1 h x hx
  simpa using this

/-- Behind an Open nothing of it is tried yet: the floor is the place. -/
theorem SvF.start {s : St} (ho : s.Ok) (hs : s.since = []) (hsn : s.sure = s.now) : SvF (openT s).pos s (openT s) [] ∧ Old (openT s).pos s.now s := by
  have hblank : ∀ k, (openT s).pos ≤ k → k < s.n → sec s.now k = cutC [] 0 := by
    intro k h1 h2
    have := allz_zeros (open_blank s.now s.n k h1 h2)
    rw [sec_len ho.nl h2] at this
    exact this
  have hu := (openT_ok ho).2.2
  refine ⟨⟨.nil, (fun x hx => by cases hx), (fun x hx => by cases hx), (fun x hx => by cases hx), Nat.le_refl _, fun k hF hk => ⟨fun _ => 0, ?_⟩, fun hp => ?_⟩, ⟨fun k _ _ => by rw [hsn], fun k _ _ => rfl, fun x hx => by rw [hs] at hx; cases hx⟩⟩
  · have hb := hblank k hF hk
    refine ⟨by rw [hsn]; exact hb, hb, fun i _ => Nat.le_refl _, Nat.zero_le _, fun i hi => by rw [hs] at hi; simp at hi, fun i _ _ => rfl, fun i x hi => by simp [inSec] at hi, fun i x hi => by simp [inSec] at hi, by simp [inSec, flatB]⟩
  · refine ⟨hblank _ (Nat.le_refl _) hp, ?_⟩
    rw [hu]; rfl

end Go.Proofs.YtafkkehcacdodaaGreat
