/- A book in numbers: what Pay, Grant, Release and Open do to the disk, the strand, the entries and the debts. Plain mathematics. -/
import Derived.Test.YtafkkehcacdodaaGreatStrNum
import Derived.Test.YtafkkehcacdodaaGreatTraMath
set_option maxRecDepth 100000
namespace Go.Proofs.YtafkkehcacdodaaGreat
open Go.RowKit

theorem bytesE_len {e : En} (h : e.May) : 9 ≤ (bytesE e).length ∧ (bytesE e).length ≤ 19 := by
  have h1 := bytesE_length h
  rcases h.kind with ⟨hk, _⟩ | ⟨hk, _⟩ | ⟨hk, _⟩ <;> rw [hk] at h1 <;> simp [sizeK] at h1 <;> omega

theorem frameE_bytes {e : En} (h : e.May) : frameE (bytesE e) = 0 := by
  have := bytesE_len h
  unfold frameE
  rw [if_neg (by omega), if_neg (by omega)]

/-- Entries are appended one behind the other, up to the first error: the error, the disk, the strand. -/
def layE : St → Sd → List En → Int
  | _, _, [] => 0
  | s, t, e :: r => if appE s t (bytesE e) ≠ 0 then appE s t (bytesE e) else layE (appS s t (bytesE e)) (appT s t (bytesE e)) r
def layS : St → Sd → List En → St
  | s, _, [] => s
  | s, t, e :: r => if appE s t (bytesE e) ≠ 0 then appS s t (bytesE e) else layS (appS s t (bytesE e)) (appT s t (bytesE e)) r
def layT : St → Sd → List En → Sd
  | _, t, [] => t
  | s, t, e :: r => if appE s t (bytesE e) ≠ 0 then appT s t (bytesE e) else layT (appS s t (bytesE e)) (appT s t (bytesE e)) r

/-- Appended, and a Sync. -/
def wrtE (s : St) (t : Sd) (l : List En) : Int := if layE s t l ≠ 0 then layE s t l else errC (layS s t l).out
def wrtS (s : St) (t : Sd) (l : List En) : St := if layE s t l ≠ 0 then layS s t l else (layS s t l).sync
def wrtT (s : St) (t : Sd) (l : List En) : Sd := if layE s t l ≠ 0 then layT s t l else synT (layS s t l) (layT s t l)

/-- A book, its strand and its disk. -/
structure Bm where
  s : St
  t : Sd
  L : List En
  D : List En

/-- The release that is owed for a grant. -/
def relE (e : En) : En := ⟨3, e.time, 0, e.addr, e.block⟩

def Bm.payE (b : Bm) : Int := if b.D = [] then 0 else wrtE b.s b.t b.D
def Bm.paid (b : Bm) : Bm := ⟨wrtS b.s b.t b.D, wrtT b.s b.t b.D, if wrtE b.s b.t b.D = 0 then b.L ++ b.D else b.L, if wrtE b.s b.t b.D = 0 then [] else b.D⟩
def Bm.pay (b : Bm) : Bm := if b.D = [] then b else b.paid
def Bm.wrote (b : Bm) (e : En) : Bm := ⟨wrtS b.s b.t [e], wrtT b.s b.t [e], if wrtE b.s b.t [e] = 0 then b.L ++ [e] else b.L, if wrtE b.s b.t [e] ≠ 0 ∧ e.kind = 2 ∧ wrtE b.s b.t [e] ≠ 6 then b.D ++ [relE e] else b.D⟩
def Bm.putE (b : Bm) (e : En) : Int := if checkE e ≠ 0 then checkE e else if b.payE ≠ 0 then b.payE else wrtE b.pay.s b.pay.t [e]
def Bm.put (b : Bm) (e : En) : Bm := if checkE e ≠ 0 then b else if b.payE ≠ 0 then b.pay else b.pay.wrote e

/-- The entries among records. -/
def foundE (l : List (List Int)) : List En := (l.filter fun b => decide (whyE b = 0)).map entE
def bootE (now : Int) : En := ⟨1, now, 0, 0, 0⟩
/-- The releases of what is open. -/
def endsE (S : List Sp) (now : Int) : List En := (S.filter fun s => s.opn).map fun s => ⟨3, max now s.frm, 0, s.addr, s.block⟩
def moreE (L : List En) (now : Int) : List En := endsE (spans L) now ++ [bootE now]
def goodT (now : Int) : Bool := decide (0 ≤ now ∧ now ≤ 1099511627776)
def startL (s : St) : List En := foundE (bodies (openT s))
def opnE (s : St) (now : Int) : Int := wrtE s (openT s) (moreE (startL s) now)
def opnS (s : St) (now : Int) : St := wrtS s (openT s) (moreE (startL s) now)
def opnB (s : St) (now : Int) : Bm := ⟨opnS s now, wrtT s (openT s) (moreE (startL s) now), startL s ++ moreE (startL s) now, []⟩

/-- Entries that may be. -/
def Fine (l : List En) : Prop := ∀ e ∈ l, e.May ∧ e.Ok

theorem Fine.app {l m : List En} (h : Fine l) (k : Fine m) : Fine (l ++ m) := fun e he => by
  rcases List.mem_append.1 he with he | he
  · exact h e he
  · exact k e he
theorem Fine.nil : Fine [] := fun e he => by cases he
theorem Fine.one {e : En} (h : e.May) (k : e.Ok) : Fine [e] := fun x hx => by rw [List.mem_singleton.1 hx]; exact ⟨h, k⟩
theorem Fine.ok {l : List En} (h : Fine l) : ∀ e ∈ l, e.Ok := fun e he => (h e he).2

theorem checkE_zero {e : En} (h : checkE e = 0) : e.May := by
  unfold checkE at h
  split at h
  · rename_i hm; exact of_decide_eq_true hm
  · cases h

theorem checkE_may {e : En} (h : e.May) : checkE e = 0 := by
  unfold checkE mayB
  rw [if_pos (decide_eq_true h)]

theorem check_cases (e : En) : checkE e = 0 ∨ checkE e = 1 := by
  unfold checkE
  split <;> simp

theorem rel_may {e : En} (h : e.May) (hk : e.kind = 2) : (relE e).May := by
  refine ⟨h.time0, h.time1, .inr (.inr ⟨rfl, ?_, ?_, rfl⟩)⟩
  · rcases h.kind with ⟨k, _⟩ | ⟨_, k, _⟩ | ⟨k, _⟩
    · omega
    · exact k
    · omega
  · rcases h.kind with ⟨k, _⟩ | ⟨_, _, k⟩ | ⟨k, _⟩
    · omega
    · exact k
    · omega

theorem rel_ok {e : En} (h : e.Ok) : (relE e).Ok := ⟨(by decide : (-9223372036854775808 : Int) ≤ 3), (by decide : (3 : Int) ≤ 9223372036854775807), h.time0, h.time1, (by decide : (0 : Int) ≤ 0), (by decide : (0 : Int) < 4294967296), h.addr0, h.addr1, h.block0, h.block1⟩

theorem goodT_boot {now : Int} : goodT now = true ↔ (bootE now).May := by
  unfold goodT
  rw [decide_eq_true_iff]
  exact ⟨fun h => ⟨h.1, h.2, .inl ⟨rfl, rfl, rfl, rfl⟩⟩, fun h => ⟨h.time0, h.time1⟩⟩

theorem boot_okE {now : Int} (h0 : 0 ≤ now) (h1 : now ≤ 1099511627776) : (bootE now).Ok := ⟨(by decide : (-9223372036854775808 : Int) ≤ 1), (by decide : (1 : Int) ≤ 9223372036854775807), by show _ ≤ now; omega, by show now ≤ _; omega, (by decide : (0 : Int) ≤ 0), (by decide : (0 : Int) < 4294967296), (by decide : (0 : Int) ≤ 0), (by decide : (0 : Int) < 4294967296), (by decide : (-9223372036854775808 : Int) ≤ 0), (by decide : (0 : Int) ≤ 9223372036854775807)⟩

theorem found_fine {l : List (List Int)} (h : ∀ b ∈ l, isBytes b) : Fine (foundE l) := by
  intro e he
  unfold foundE at he
  obtain ⟨b, hb, rfl⟩ := List.mem_map.1 he
  obtain ⟨hb1, hb2⟩ := List.mem_filter.1 hb
  exact ⟨(bytesE_entE (h b hb1) (by simpa using hb2)).1, entE_ok b (h b hb1)⟩

theorem found_len (l : List (List Int)) : (foundE l).length ≤ l.length := by
  unfold foundE
  rw [List.length_map]
  exact List.length_filter_le _ _

/-- Each span is a grant's. -/
theorem spans_from (l : List En) : ∀ s ∈ spans l, ∃ e ∈ l, e.kind = 2 ∧ s.sub = e.sub ∧ s.addr = e.addr ∧ s.block = e.block ∧ s.frm = e.time := by
  unfold spans
  suffices H : ∀ (m l : List En) (acc : List Sp), (∀ e ∈ l, e ∈ m) → (∀ s ∈ acc, ∃ e ∈ m, e.kind = 2 ∧ s.sub = e.sub ∧ s.addr = e.addr ∧ s.block = e.block ∧ s.frm = e.time) → ∀ s ∈ l.foldl stepS acc, ∃ e ∈ m, e.kind = 2 ∧ s.sub = e.sub ∧ s.addr = e.addr ∧ s.block = e.block ∧ s.frm = e.time from
    H l l [] (fun _ h => h) (fun s hs => by cases hs)
  intro m l
  induction l with
  | nil => intro acc _ h; exact h
  | cons e l ih =>
    intro acc hm h
    refine ih (stepS acc e) (fun x hx => hm x (by simp [hx])) ?_
    have hshut : ∀ (o : Option Nat) (t : Int), (∀ i, o = some i → i < acc.length) → ∀ s ∈ shutI acc o t, ∃ e ∈ m, e.kind = 2 ∧ s.sub = e.sub ∧ s.addr = e.addr ∧ s.block = e.block ∧ s.frm = e.time := by
      intro o t ho s hs
      cases o with
      | none => exact h s hs
      | some i =>
        rcases List.mem_or_eq_of_mem_set hs with h' | rfl
        · exact h s h'
        · have hi := ho i rfl
          refine h (acc.getD i default) ?_
          rw [List.getD_eq_getElem?_getD, List.getElem?_eq_getElem hi]
          exact List.getElem_mem hi
    unfold stepS
    split
    · rename_i hk
      intro s hs
      rcases List.mem_append.1 hs with hs | hs
      · exact hshut _ _ (fun i hi => openI_lt hi) s hs
      · rw [List.mem_singleton.1 hs]
        exact ⟨e, hm e (by simp), hk, rfl, rfl, rfl, rfl⟩
    · split
      · exact hshut _ _ (fun i hi => openI_lt hi)
      · exact h

theorem ends_fine {l : List En} (h : Fine l) {now : Int} (h0 : 0 ≤ now) (h1 : now ≤ 1099511627776) : Fine (endsE (spans l) now) := by
  intro e he
  unfold endsE at he
  obtain ⟨s, hs, rfl⟩ := List.mem_map.1 he
  obtain ⟨x, hx, hk, _, e2, e3, e4⟩ := spans_from l s (List.mem_filter.1 hs).1
  obtain ⟨hm, ho⟩ := h x hx
  have t0 := hm.time0
  have t1 := hm.time1
  have hb : 0 ≤ x.block ∧ x.block ≤ 65535 := by
    rcases hm.kind with ⟨k, _⟩ | ⟨_, k⟩ | ⟨k, _⟩
    · omega
    · exact k
    · omega
  have ha0 := ho.addr0
  have ha1 := ho.addr1
  refine ⟨⟨?_, ?_, .inr (.inr ⟨rfl, ?_, ?_, rfl⟩)⟩, ⟨(by decide : (-9223372036854775808 : Int) ≤ 3), (by decide : (3 : Int) ≤ 9223372036854775807), ?_, ?_, (by decide : (0 : Int) ≤ 0), (by decide : (0 : Int) < 4294967296), ?_, ?_, ?_, ?_⟩⟩
  · show 0 ≤ max now s.frm; omega
  · show max now s.frm ≤ _; omega
  · show 0 ≤ s.block; omega
  · show s.block ≤ _; omega
  · show _ ≤ max now s.frm; omega
  · show max now s.frm ≤ _; omega
  · show 0 ≤ s.addr; omega
  · show s.addr < _; omega
  · show _ ≤ s.block; omega
  · show s.block ≤ _; omega

theorem more_fine {l : List En} (h : Fine l) {now : Int} (h0 : 0 ≤ now) (h1 : now ≤ 1099511627776) : Fine (moreE l now) :=
  (ends_fine h h0 h1).app (.one (goodT_boot.1 (by simp [goodT, h0, h1])) (boot_okE h0 h1))

theorem ends_len (l : List En) (now : Int) : (endsE (spans l) now).length ≤ l.length := by
  unfold endsE
  rw [List.length_map]
  exact Nat.le_trans (List.length_filter_le _ _) (spans_length l)

theorem more_len (l : List En) (now : Int) : (moreE l now).length ≤ l.length + 1 := by
  unfold moreE
  rw [List.length_append]
  have := ends_len l now
  simp
  omega

/-! ### Numbers stay small -/
theorem appS_ok {s : St} (h : s.Ok) {t : Sd} (ht : t.Ok s.n) (b : List Int) (hb : isBytes b) : (appS s t b).Ok ∧ (appS s t b).n = s.n := by
  unfold appS
  by_cases hE : frameE b ≠ 0
  · rw [if_pos hE]; exact ⟨h, rfl⟩
  rw [if_neg hE]
  have hE' : frameE b = 0 := by simpa using hE
  obtain ⟨f1, f2, _⟩ := ht.fit b hE'
  have hfl := frameB_len b
  have hl : b.length ≤ 56 := by
    unfold frameE at hE'
    split at hE'
    · cases hE'
    · split at hE'
      · cases hE'
      · omega
  split
  · exact ⟨h, rfl⟩
  · rename_i hn
    have hs := sec_len h.nl (show (t.fit b).pos < s.n by omega)
    have hW : (withB (sec s.now (t.fit b).pos) (t.fit b).used (frameB b)).length = 64 := withB_len _ _ _ hs (by omega)
    have hWb := withB_bytes _ (t.fit b).used _ (sec_bytes h.nb (t.fit b).pos) (frameB_bytes b hb hl)
    unfold St.write
    split
    · exact ⟨h.take.wrote (by show _ < s.n; omega) hW hWb, rfl⟩
    · exact ⟨h.take, rfl⟩

theorem sync_okS {s : St} (h : s.Ok) : s.sync.Ok ∧ s.sync.n = s.n := by
  unfold St.sync
  split
  · exact ⟨h.take.settled, rfl⟩
  · exact ⟨h.take, rfl⟩

/-- What goes with a book: small numbers. -/
structure Nb (s : St) (t : Sd) (q : Nat) : Prop where
  ok : s.Ok
  tk : t.Ok s.n
  ops : s.ops ≤ q
  sin : s.since.length ≤ q

theorem Nb.app {s : St} {t : Sd} {q : Nat} (h : Nb s t q) (b : List Int) (hb : isBytes b) : Nb (appS s t b) (appT s t b) (q + 1) ∧ (appS s t b).n = s.n ∧ (appT s t b).recs.length ≤ t.recs.length + 1 := by
  obtain ⟨h1, h2⟩ := appS_ok h.ok h.tk b hb
  obtain ⟨h3, h4⟩ := appT_ok (s := s) h.tk b hb
  have hf : Few s s.n q := ⟨rfl, h.ops, h.sin⟩
  have hf2 := hf.app t b
  exact ⟨⟨h1, by rw [h2]; exact h3, hf2.ops, hf2.sin⟩, h2, h4⟩

theorem Nb.mono {s : St} {t : Sd} {q q' : Nat} (h : Nb s t q) (hq : q ≤ q') : Nb s t q' := ⟨h.ok, h.tk, Nat.le_trans h.ops hq, Nat.le_trans h.sin hq⟩

theorem Nb.sync {s : St} {t : Sd} {q : Nat} (h : Nb s t q) : Nb s.sync (synT s t) (q + 1) ∧ s.sync.n = s.n ∧ (synT s t).recs = t.recs := by
  obtain ⟨h1, h2⟩ := sync_okS h.ok
  obtain ⟨h3, h4⟩ := synT_ok (s := s) h.tk
  have hf : Few s s.n q := ⟨rfl, h.ops, h.sin⟩
  have hf2 := hf.sync
  exact ⟨⟨h1, by rw [h2]; exact h3, hf2.ops, hf2.sin⟩, h2, h4⟩

theorem Nb.lay {q : Nat} : ∀ (l : List En) {s : St} {t : Sd}, Nb s t q → Nb (layS s t l) (layT s t l) (q + l.length) ∧ (layS s t l).n = s.n ∧ (layT s t l).recs.length ≤ t.recs.length + l.length ∧ (layS s t l).outs.length ≤ s.outs.length := by
  intro l
  induction l generalizing q with
  | nil => intro s t h; exact ⟨h, rfl, Nat.le_refl _, Nat.le_refl _⟩
  | cons e r ih =>
    intro s t h
    obtain ⟨h1, h2, h3⟩ := h.app (bytesE e) (bytesE_bytes e)
    have h4 := outs_app s t (bytesE e)
    unfold layS layT
    by_cases he : appE s t (bytesE e) ≠ 0
    · rw [if_pos he, if_pos he]
      exact ⟨h1.mono (by simp), h2, by simp; omega, h4⟩
    · rw [if_neg he, if_neg he]
      obtain ⟨i1, i2, i3, i4⟩ := ih h1
      refine ⟨i1.mono (by simp; omega), i2.trans h2, ?_, Nat.le_trans i4 h4⟩
      rw [List.length_cons]; omega

theorem Nb.wrt {q : Nat} (l : List En) {s : St} {t : Sd} (h : Nb s t q) : Nb (wrtS s t l) (wrtT s t l) (q + l.length + 1) ∧ (wrtS s t l).n = s.n ∧ (wrtT s t l).recs.length ≤ t.recs.length + l.length ∧ (wrtS s t l).outs.length ≤ s.outs.length := by
  obtain ⟨h1, h2, h3, h4⟩ := Nb.lay l h
  unfold wrtS wrtT
  split
  · exact ⟨h1.mono (by omega), h2, h3, h4⟩
  · obtain ⟨k1, k2, k3⟩ := h1.sync
    exact ⟨k1, k2.trans h2, by rw [k3]; exact h3, Nat.le_trans (outs_sync _) h4⟩

/-- A book's numbers: every call of its disk counts one in q. -/
structure Bm.Ok (b : Bm) (q : Nat) : Prop where
  nb : Nb b.s b.t q
  fL : Fine b.L
  fD : Fine b.D
  d1 : b.D.length ≤ 1

theorem Bm.Ok.mono {b : Bm} {q q' : Nat} (h : b.Ok q) (hq : q ≤ q') : b.Ok q' := ⟨h.nb.mono hq, h.fL, h.fD, h.d1⟩

/-- How a book has grown. -/
structure Grew (b b' : Bm) (n : Nat) : Prop where
  sn : b'.s.n = b.s.n
  recs : b'.t.recs.length ≤ b.t.recs.length + n
  L : b'.L.length ≤ b.L.length + n
  outs : b'.s.outs.length ≤ b.s.outs.length

theorem Grew.refl (b : Bm) (n : Nat) : Grew b b n := ⟨rfl, by omega, by omega, Nat.le_refl _⟩
theorem Grew.trans {b c d : Bm} {n m : Nat} (h : Grew b c n) (k : Grew c d m) : Grew b d (n + m) := ⟨k.sn.trans h.sn, by have := h.recs; have := k.recs; omega, by have := h.L; have := k.L; omega, Nat.le_trans k.outs h.outs⟩

theorem Bm.Ok.pay {b : Bm} {q : Nat} (h : b.Ok q) : b.pay.Ok (q + 2) ∧ Grew b b.pay 1 ∧ (b.payE = 0 → b.pay.D = []) := by
  unfold Bm.pay Bm.payE
  by_cases hD : b.D = []
  · rw [if_pos hD, if_pos hD]; exact ⟨h.mono (by omega), Grew.refl _ _, fun _ => hD⟩
  · rw [if_neg hD, if_neg hD]
    obtain ⟨h1, h2, h3, h4⟩ := Nb.wrt b.D h.nb
    have hd := h.d1
    unfold Bm.paid
    refine ⟨⟨h1.mono (by omega), ?_, ?_, ?_⟩, ⟨h2, ?_, ?_, h4⟩, fun e => if_pos e⟩
    · dsimp only
      split
      · exact h.fL.app h.fD
      · exact h.fL
    · dsimp only
      split
      · exact .nil
      · exact h.fD
    · dsimp only
      split
      · simp
      · exact hd
    · exact Nat.le_trans h3 (by omega)
    · dsimp only
      split
      · rw [List.length_append]; omega
      · omega

theorem Bm.Ok.wrote {b : Bm} {q : Nat} (h : b.Ok q) (hD : b.D = []) {e : En} (hm : e.May) (ho : e.Ok) : (b.wrote e).Ok (q + 2) ∧ Grew b (b.wrote e) 1 := by
  obtain ⟨h1, h2, h3, h4⟩ := Nb.wrt [e] h.nb
  unfold Bm.wrote
  refine ⟨⟨h1.mono (by simp), ?_, ?_, ?_⟩, ⟨h2, h3, ?_, h4⟩⟩
  · dsimp only
    split
    · exact h.fL.app (.one hm ho)
    · exact h.fL
  · dsimp only
    split
    · rename_i hc
      exact h.fD.app (.one (rel_may hm hc.2.1) (rel_ok ho))
    · exact h.fD
  · dsimp only
    rw [hD]
    split <;> simp
  · dsimp only
    split
    · simp
    · omega

theorem Bm.Ok.put {b : Bm} {q : Nat} (h : b.Ok q) {e : En} (ho : e.Ok) : (b.put e).Ok (q + 4) ∧ Grew b (b.put e) 2 := by
  unfold Bm.put
  by_cases hc : checkE e = 0
  · rw [if_neg (by simpa using hc)]
    obtain ⟨p1, p2, p3⟩ := h.pay
    by_cases hp : b.payE = 0
    · rw [if_neg (by simpa using hp)]
      obtain ⟨w1, w2⟩ := p1.wrote (p3 hp) (checkE_zero hc) ho
      exact ⟨w1, p2.trans w2⟩
    · rw [if_pos hp]
      exact ⟨p1.mono (by omega), p2.trans (Grew.refl _ 1)⟩
  · rw [if_pos hc]
    exact ⟨h.mono (by omega), Grew.refl _ _⟩

theorem start_len {s : St} (h : s.Ok) : (startL s).length ≤ s.n * 8 := by
  have h1 := found_len (bodies (openT s))
  rw [bodies_len] at h1
  exact Nat.le_trans h1 (openT_ok h).2.1

theorem start_fine {s : St} (h : s.Ok) : Fine (startL s) := found_fine (fun b hb => by
  obtain ⟨x, hx, rfl⟩ := List.mem_map.1 hb
  exact ((openT_ok h).1.rc x hx).2.1)

theorem opn_ok {s : St} (h : s.Ok) {q : Nat} (hops : s.ops ≤ q) (hsin : s.since.length ≤ q) {now : Int} (h0 : 0 ≤ now) (h1 : now ≤ 1099511627776) :
    (opnB s now).Ok (q + (moreE (startL s) now).length + 1) ∧ (opnB s now).s.n = s.n ∧ (opnB s now).t.recs.length ≤ (openT s).recs.length + (moreE (startL s) now).length ∧ (opnB s now).s.outs.length ≤ s.outs.length := by
  have hn : Nb s (openT s) q := ⟨h, (openT_ok h).1, hops, hsin⟩
  obtain ⟨k1, k2, k3, k4⟩ := Nb.wrt (moreE (startL s) now) hn
  exact ⟨⟨k1, (start_fine h).app (more_fine (start_fine h) h0 h1), .nil, by simp [opnB]⟩, k2, k3, k4⟩

end Go.Proofs.YtafkkehcacdodaaGreat
