/- A book's grants and releases, and what is told of them: whatever of the tried entries is found. Plain mathematics. -/
import Derived.Test.YtafkkehcacdodaaGreatBokTold
set_option maxRecDepth 100000
namespace Go.Proofs.YtafkkehcacdodaaGreat
open Go.RowKit

theorem btw_split {A B : List Tr} : ∀ {h : List (List Int)}, Btw h (A ++ B) → ∃ h1 h2, h = h1 ++ h2 ∧ Btw h1 A ∧ Btw h2 B := by
  induction A with
  | nil => intro h hb; exact ⟨[], h, rfl, .nil, hb⟩
  | cons x A ih =>
    intro h hb
    cases hb with
    | skip _ hx hb =>
      obtain ⟨h1, h2, rfl, e1, e2⟩ := ih hb
      exact ⟨h1, h2, rfl, .skip x hx e1, e2⟩
    | take _ hb =>
      obtain ⟨h1, h2, rfl, e1, e2⟩ := ih hb
      exact ⟨x.b :: h1, h2, rfl, .take x e1, e2⟩

theorem btw_unsured {G : List Tr} : ∀ {h : List (List Int)}, SuFi G → Btw h (G.map Tr.sured) → Btw h G := by
  induction G with
  | nil => intro h _ hb; exact hb
  | cons x G ih =>
    intro h hs hb
    have hs' : SuFi G := fun y hy => hs y (by simp [hy])
    rw [List.map_cons] at hb
    cases hb with
    | skip _ hx hb =>
      refine .skip x ?_ (ih hs' hb)
      have hx' : x.fi = false := hx
      cases hsu : x.su with
      | false => rfl
      | true => rw [hs x (by simp) hsu] at hx'; cases hx'
    | take _ hb => exact .take x (ih hs' hb)

theorem foundE_app (a b : List (List Int)) : foundE (a ++ b) = foundE a ++ foundE b := by
  unfold foundE
  rw [List.filter_append, List.map_append]

theorem Fine.sub {l m : List En} (h : Fine m) (hs : l.Sublist m) : Fine l := fun e he => h e (hs.subset he)

/-- What is found behind a write. -/
theorem wrt_found {s : St} {t : Sd} {l : List En} {G : List Tr} (hs : SuFi G) (hf : Fine l) {hh : List (List Int)} (hb : Btw hh (wrtG s t l G)) :
    ∃ h1 l2, Btw h1 G ∧ foundE hh = foundE h1 ++ l2 ∧ l2.Sublist l ∧ (wrtE s t l = 0 → l2 = l) ∧ (wrtE s t l = 6 → l.length = 1 → l2 = []) := by
  obtain ⟨R, r1, r2, r3, r4⟩ := wrtG_shape l s t G
  rcases r4 with ⟨e0, e1, e2, e3⟩ | ⟨e0, e1, e6⟩
  · rw [e3, List.map_append] at hb
    obtain ⟨h1, h2, rfl, b1, b2⟩ := btw_split hb
    have hall := btw_all b2 (fun x hx => by obtain ⟨y, hy, rfl⟩ := List.mem_map.1 hx; exact e2 y hy)
    rw [List.map_map, show Tr.b ∘ Tr.sured = Tr.b from rfl, r2, e1, List.take_length] at hall
    have h2e : foundE h2 = l := by rw [hall]; exact found_bytes hf
    refine ⟨h1, l, btw_unsured hs b1, by rw [foundE_app, h2e], List.Sublist.refl _, fun _ => rfl, fun h6 => ?_⟩
    rw [e0] at h6; cases h6
  · rw [e1] at hb
    obtain ⟨h1, h2, rfl, b1, b2⟩ := btw_split hb
    refine ⟨h1, foundE h2, b1, foundE_app _ _, ?_, fun hz => absurd hz e0, fun h6 hl => ?_⟩
    · have h3 := found_sub (btw_sub b2)
      rw [r2, found_bytes (hf.sub (List.take_sublist _ _))] at h3
      exact h3.trans (List.take_sublist _ _)
    · rw [e6 h6 hl] at b2
      cases b2
      rfl

/-- What is told, whatever is found. -/
structure Told (G : List Tr) (D : List En) (ow tm : Nat → Int) (now : Int) (A : List Sp) : Prop where
  fx : Fixed D ow tm now A
  sn : ∀ hh, Btw hh G → Seen (spans (foundE hh)) D ow tm now A

theorem Seen.owe {S : List Sp} {ow tm : Nat → Int} {now : Int} {A : List Sp} (h : Seen S [] ow tm now A) (D : List En) : Seen S D ow tm now A :=
  ⟨h.uq, h.glob, fun i hi => (h.own i hi).unowed (fun ho s hs h1 h2 => by
    cases hop : s.opn with
    | false => rfl
    | true => obtain ⟨_, x, hx, _⟩ := ((h.own i hi).rest ho s hs h1 h2).1 hop; cases hx), h.asks⟩

theorem sub_one {e : En} {l : List En} (h : l.Sublist [e]) : l = [] ∨ l = [e] := by
  cases h with
  | cons _ h => exact .inl (List.sublist_nil.1 h)
  | cons_cons _ h => exact .inr (by rw [List.sublist_nil.1 h])

section
variable {G : List Tr} {ow tm : Nat → Int} {now : Int} {A : List Sp} {b : Bm} {q : Nat}

theorem Told.now' {D : List En} (h : Told G D ow tm now A) {now' : Int} (hn : now ≤ now') : Told G D ow tm now' A :=
  ⟨h.fx.now' hn, fun hh hb => (h.sn hh hb).now' hn⟩

theorem Told.pay (hb : b.Ok q) (hs : SuFi G) (h : Told G b.D ow tm now A) : (b.payE = 0 → Told (b.payG G) [] ow tm now A) ∧ (b.payE ≠ 0 → Told (b.payG G) b.pay.D ow tm now A) := by
  unfold Bm.payE Bm.payG Bm.pay
  by_cases hD : b.D = []
  · rw [if_pos hD, if_pos hD, if_pos hD]
    rw [hD] at h
    exact ⟨fun _ => h, fun hz => absurd rfl hz⟩
  · rw [if_neg hD, if_neg hD, if_neg hD]
    obtain ⟨e, he⟩ : ∃ e, b.D = [e] := by
      have h1 := hb.d1
      match hd : b.D, h1 with
      | [], _ => exact absurd hd hD
      | [x], _ => exact ⟨x, rfl⟩
    have hf := hb.fD
    have hmem : e ∈ b.D := by rw [he]; simp
    have hcase : ∀ hh, Btw hh (wrtG b.s b.t b.D G) → ∃ h1, Btw h1 G ∧ ((foundE hh = foundE h1 ∧ wrtE b.s b.t b.D ≠ 0) ∨ foundE hh = foundE h1 ++ [e]) := by
      intro hh hbw
      obtain ⟨h1, l2, b1, b2, b3, b4, _⟩ := wrt_found hs hf hbw
      rw [he] at b3
      rcases sub_one b3 with rfl | rfl
      · refine ⟨h1, b1, .inl ⟨by rw [b2, List.append_nil], fun hz => ?_⟩⟩
        have := b4 hz
        rw [he] at this; cases this
      · exact ⟨h1, b1, .inr b2⟩
    refine ⟨fun hz => ⟨h.fx.paid, fun hh hbw => ?_⟩, fun hz => ?_⟩
    · obtain ⟨h1, b1, b2⟩ := hcase hh hbw
      rcases b2 with ⟨_, b3⟩ | b2
      · exact absurd hz b3
      · rw [b2, spans_snoc]
        exact ((h.sn h1 b1).owed h.fx hmem).2
    · have hDD : b.paid.D = b.D := if_neg hz
      rw [hDD]
      refine ⟨h.fx, fun hh hbw => ?_⟩
      obtain ⟨h1, b1, b2⟩ := hcase hh hbw
      rcases b2 with ⟨b2, _⟩ | b2
      · rw [b2]; exact h.sn h1 b1
      · rw [b2, spans_snoc]
        exact ((h.sn h1 b1).owed h.fx hmem).1

theorem Told.grant (hb : b.Ok q) (hs : SuFi G) (h : Told G b.D ow tm now A) {κ : Nat} (hκ : κ < 6) (hc : ow κ = 0 ∨ (ow κ = -1 ∧ tm κ < now)) {sub : Int} (h0 : 0 < sub) (h3 : sub ≤ 3) (hok : En.Ok ⟨2, now, sub, ka κ, kb κ⟩) :
    Told (b.putG ⟨2, now, sub, ka κ, kb κ⟩ G) (b.put ⟨2, now, sub, ka κ, kb κ⟩).D (if b.putE ⟨2, now, sub, ka κ, kb κ⟩ = 0 then upd ow κ sub else upd ow κ (-1)) (upd tm κ now) now A := by
  obtain ⟨e, he⟩ : ∃ e : En, e = ⟨2, now, sub, ka κ, kb κ⟩ := ⟨_, rfl⟩
  rw [← he] at hok ⊢
  have hk : e.kind = 2 := by rw [he]
  have ha : e.addr = ka κ := by rw [he]
  have hbl : e.block = kb κ := by rw [he]
  have ht : e.time = now := by rw [he]
  have hsu : e.sub = sub := by rw [he]
  obtain ⟨p1, p2⟩ := h.pay hb hs
  have hsp := (payG_grew hb hs).sf
  unfold Bm.putG Bm.put Bm.putE
  by_cases hck : checkE e ≠ 0
  · rw [if_pos hck, if_pos hck, if_pos hck, if_neg hck]
    exact ⟨h.fx.refused hκ hc, fun hh hbw => (h.sn hh hbw).refused hκ hc⟩
  · rw [if_neg hck, if_neg hck, if_neg hck]
    have hmay : e.May := checkE_zero (by simpa using hck)
    by_cases hpy : b.payE ≠ 0
    · rw [if_pos hpy, if_pos hpy, if_pos hpy, if_neg hpy]
      have hp := p2 hpy
      exact ⟨hp.fx.refused hκ hc, fun hh hbw => (hp.sn hh hbw).refused hκ hc⟩
    · rw [if_neg hpy, if_neg hpy, if_neg hpy]
      have hp := p1 (by simpa using hpy)
      have hDn : b.pay.D = [] := hb.pay.2.2 (by simpa using hpy)
      have hfe : Fine [e] := .one hmay hok
      have hWD : (b.pay.wrote e).D = if wrtE b.pay.s b.pay.t [e] ≠ 0 ∧ e.kind = 2 ∧ wrtE b.pay.s b.pay.t [e] ≠ 6 then b.pay.D ++ [relE e] else b.pay.D := rfl
      rw [hWD, hDn]
      by_cases hz : wrtE b.pay.s b.pay.t [e] = 0
      · rw [if_pos hz, if_neg (fun hh => hh.1 hz)]
        refine ⟨by rw [← hsu]; exact (hp.fx.granted hκ hc ha hbl ht).2 (by omega) (by omega), fun hh hbw => ?_⟩
        obtain ⟨h1, l2, b1, b2, _, b4, _⟩ := wrt_found hsp hfe hbw
        rw [b2, b4 hz, spans_snoc, ← hsu]
        exact ((hp.sn h1 b1).granted hp.fx hκ hc hk ha hbl ht).2 (by omega)
      · rw [if_neg hz]
        by_cases h6 : wrtE b.pay.s b.pay.t [e] = 6
        · rw [if_neg (fun hh => hh.2.2 h6)]
          refine ⟨hp.fx.refused hκ hc, fun hh hbw => ?_⟩
          obtain ⟨h1, l2, b1, b2, _, _, b5⟩ := wrt_found hsp hfe hbw
          rw [b2, b5 h6 rfl, List.append_nil]
          exact (hp.sn h1 b1).refused hκ hc
        · rw [if_pos ⟨hz, hk, h6⟩, List.nil_append]
          refine ⟨(hp.fx.granted hκ hc ha hbl ht).1, fun hh hbw => ?_⟩
          obtain ⟨h1, l2, b1, b2, b3, _, _⟩ := wrt_found hsp hfe hbw
          rcases sub_one b3 with rfl | rfl
          · rw [b2, List.append_nil]
            exact ((hp.sn h1 b1).refused hκ hc).owe _
          · rw [b2, spans_snoc]
            exact ((hp.sn h1 b1).granted hp.fx hκ hc hk ha hbl ht).1

theorem Told.leave {D : List En} (h : Told G D ow tm now A) {κ : Nat} (hκ : κ < 6) (ho : 0 < ow κ) : Told G D (upd ow κ (-2)) tm now (A ++ [askS (ow κ) κ (tm κ) now]) :=
  ⟨h.fx.leave hκ ho, fun hh hb => (h.sn hh hb).leave h.fx hκ ho⟩

theorem Told.release (hb : b.Ok q) (hs : SuFi G) (h : Told G b.D ow tm now A) {κ : Nat} (hκ : κ < 6) (ho : ow κ = -2) (hok : En.Ok ⟨3, now, 0, ka κ, kb κ⟩) :
    (b.putE ⟨3, now, 0, ka κ, kb κ⟩ = 0 → Told (b.putG ⟨3, now, 0, ka κ, kb κ⟩ G) (b.put ⟨3, now, 0, ka κ, kb κ⟩).D (upd ow κ (-1)) (upd tm κ now) now A) ∧
    (b.putE ⟨3, now, 0, ka κ, kb κ⟩ ≠ 0 → Told (b.putG ⟨3, now, 0, ka κ, kb κ⟩ G) (b.put ⟨3, now, 0, ka κ, kb κ⟩).D ow tm now A) := by
  obtain ⟨e, he⟩ : ∃ e : En, e = ⟨3, now, 0, ka κ, kb κ⟩ := ⟨_, rfl⟩
  rw [← he] at hok ⊢
  have hk : e.kind = 3 := by rw [he]
  have ha : e.addr = ka κ := by rw [he]
  have hbl : e.block = kb κ := by rw [he]
  have ht : e.time = now := by rw [he]
  obtain ⟨p1, p2⟩ := h.pay hb hs
  have hsp := (payG_grew hb hs).sf
  unfold Bm.putG Bm.put Bm.putE
  by_cases hck : checkE e ≠ 0
  · rw [if_pos hck, if_pos hck, if_pos hck]
    exact ⟨fun hz => absurd hz hck, fun _ => h⟩
  · rw [if_neg hck, if_neg hck, if_neg hck]
    have hmay : e.May := checkE_zero (by simpa using hck)
    by_cases hpy : b.payE ≠ 0
    · rw [if_pos hpy, if_pos hpy, if_pos hpy]
      exact ⟨fun hz => absurd hz hpy, fun _ => p2 hpy⟩
    · rw [if_neg hpy, if_neg hpy, if_neg hpy]
      have hp := p1 (by simpa using hpy)
      have hDn : b.pay.D = [] := hb.pay.2.2 (by simpa using hpy)
      have hfe : Fine [e] := .one hmay hok
      have hWD : (b.pay.wrote e).D = [] := by
        show (if wrtE b.pay.s b.pay.t [e] ≠ 0 ∧ e.kind = 2 ∧ wrtE b.pay.s b.pay.t [e] ≠ 6 then b.pay.D ++ [relE e] else b.pay.D) = []
        rw [if_neg (fun hh => by have := hh.2.1; omega), hDn]
      rw [hWD]
      refine ⟨fun hz => ⟨hp.fx.released hκ ho, fun hh hbw => ?_⟩, fun hz => ⟨hp.fx, fun hh hbw => ?_⟩⟩
      · obtain ⟨h1, l2, b1, b2, _, b4, _⟩ := wrt_found hsp hfe hbw
        rw [b2, b4 hz, spans_snoc]
        exact ((hp.sn h1 b1).released hp.fx hκ ho hk ha hbl ht).2
      · obtain ⟨h1, l2, b1, b2, b3, _, _⟩ := wrt_found hsp hfe hbw
        rcases sub_one b3 with rfl | rfl
        · rw [b2, List.append_nil]
          exact hp.sn h1 b1
        · rw [b2, spans_snoc]
          exact ((hp.sn h1 b1).released hp.fx hκ ho hk ha hbl ht).1

/-- What is still held is asked for up to the end. -/
def lastA (ow tm : Nat → Int) (now : Int) (k : Nat) : List Sp := (List.range k).flatMap fun κ => if 0 < ow κ then [askS (ow κ) κ (tm κ) now] else []

theorem lastA_succ (ow tm : Nat → Int) (now : Int) (k : Nat) : lastA ow tm now (k + 1) = lastA ow tm now k ++ (if 0 < ow k then [askS (ow k) k (tm k) now] else []) := by
  unfold lastA
  rw [List.range_succ, List.flatMap_append, List.flatMap_cons, List.flatMap_nil, List.append_nil]

theorem lastA_len (ow tm : Nat → Int) (now : Int) (k : Nat) : (lastA ow tm now k).length ≤ k := by
  induction k with
  | zero => simp [lastA]
  | succ k ih =>
    rw [lastA_succ, List.length_append]
    split <;> simp <;> omega

/-- An ask's numbers. -/
structure AskN (now : Int) (q : Sp) : Prop where
  a : 0 ≤ q.addr ∧ q.addr < 4294967296
  k : 0 ≤ q.block ∧ q.block ≤ 10
  s : 0 ≤ q.sub ∧ q.sub ≤ 3
  f : 0 ≤ q.frm
  ft : q.frm ≤ q.til
  t : q.til ≤ now

theorem Told.last {D : List En} (h : Told G D ow tm now A) {hh : List (List Int)} (hb : Btw hh G) {now2 : Int} (hn : now ≤ now2) {R : List En} (hR : R.Sublist (moreE (foundE hh) now2)) : ∀ q ∈ A ++ lastA ow tm now 6, AskOK (spans (foundE hh ++ R)) q ∧ AskN now q := by
  have hS := h.sn hh hb
  intro q hq
  have hmain : AskOK (spans (foundE hh)) q ∧ q.til ≤ now ∧ ∃ κ, κ < 6 ∧ q.addr = ka κ ∧ q.block = kb κ ∧ 0 ≤ q.frm ∧ 0 ≤ q.sub ∧ q.sub ≤ 3 := by
    rcases List.mem_append.1 hq with hq | hq
    · obtain ⟨κ, a1, a2, a3, _, _, a6, a7, a8, a9⟩ := h.fx.ask q hq
      exact ⟨hS.asks q hq, a7, κ, a1, a2, a3, a6, a8, a9⟩
    · obtain ⟨κ, hκ, hq⟩ := List.mem_flatMap.1 hq
      have hκ6 := List.mem_range.1 hκ
      split at hq
      · rename_i ho
        rw [List.mem_singleton.1 hq]
        have := h.fx.tm0 κ hκ6
        have := h.fx.ow3 κ hκ6
        exact ⟨hS.asked h.fx hκ6 ho, Int.le_refl _, κ, hκ6, rfl, rfl, by show 0 ≤ tm κ; omega, by show 0 ≤ ow κ; omega, by show ow κ ≤ 3; omega⟩
      · cases hq
  obtain ⟨h1, h2, κ, h3, h4, h5, h6, h7, h8⟩ := hmain
  refine ⟨h1.opened (by omega) hR, ?_, ?_, ⟨h7, h8⟩, h6, h1.le, h2⟩
  · rw [h4]; unfold ka; omega
  · rw [h5]; unfold kb; omega

end

/-- At the start: nothing is held. -/
theorem told_new (n : Nat) : Told (wrtG (St.new n) ⟨0, 0, []⟩ [bootE 0] []) [] (fun _ => 0) (fun _ => 0) 0 [] := by
  refine ⟨⟨Int.le_refl _, fun κ _ => ⟨Int.le_refl _, Int.le_refl _⟩, fun κ _ => ⟨by omega, by omega⟩, (fun q hq => by cases hq), (fun e he => by cases he), Nat.zero_le _⟩, fun hh hb => ?_⟩
  have hf : Fine [bootE 0] := .one (goodT_boot.1 (by decide)) (boot_okE (Int.le_refl _) (by omega))
  obtain ⟨h1, l2, b1, b2, b3, _, _⟩ := wrt_found (fun x hx => by cases hx) hf hb
  cases b1
  have hs : spans (foundE hh) = [] := by
    rw [b2]
    rcases sub_one b3 with rfl | rfl
    · rfl
    · show spans ([] ++ [bootE 0]) = []
      rw [spans_boot]; rfl
  rw [hs]
  exact ⟨uniq_nil, (fun s hs => by cases hs), fun κ _ => ⟨(fun _ s hs => by cases hs), fun ho => absurd ho (by decide), fun ho => absurd ho (by decide)⟩, fun q hq => by cases hq⟩

end Go.Proofs.YtafkkehcacdodaaGreat
