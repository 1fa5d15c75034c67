/- told: of each span that is asked for, both ends and the middle: just its subscriber. -/
import Derived.Test.YtafkkehcacdodaaGreatM25
import Derived.Test.YtafkkehcacdodaaGreatM27
import Derived.Test.YtafkkehcacdodaaGreatM33
import Derived.Deep.RegionHeld3
import Derived.BigQuiet
set_option maxRecDepth 100000
namespace Go.Proofs.YtafkkehcacdodaaGreat
open Go.RowKit Go.Shelf
attribute [local go_sem ↓] Go.wp_at_zero Go.wp_at_succ

/-- The times that are asked at. -/
def askT (q : Sp) (k : Nat) : Int := if k = 0 then q.frm else if k = 1 then q.til else (q.frm + q.til) / 2

theorem askT_in {now : Int} {q : Sp} (h : AskN now q) (k : Nat) : q.frm ≤ askT q k ∧ askT q k ≤ q.til := by
  have := h.ft
  unfold askT
  split
  · omega
  · split <;> omega

theorem subsAt_len (l : List Sp) (a k t : Int) : (subsAt l a k t).length ≤ l.length := by
  unfold subsAt
  rw [List.length_map]
  exact List.length_filter_le _ _

/-- Who, of one that is asked for. -/
theorem who_ask (w : World) (v : Value) (B O : Nat) (l : List Sp) (h : Sps w v B O l) (hok : OkAll l) (hl : l.length ≤ 1000) {now : Int} (hn : now ≤ 100000) {q : Sp} (hq : AskOK l q) (hN : AskN now q) (k : Nat) :
    Calls Tryz.prog 59 #[v, .int .u32 q.addr, .int .i64 q.block, .int .i64 (askT q k)] w fun e w' => ∃ b c, e = .returned (.slice (some ⟨b, 0, none⟩) 1 c) ∧ 1 ≤ c ∧ c ≤ maxLen ∧ w'.cell? ⟨b, 0, none⟩ = some (.int .u32 q.sub) ∧ Below w.heap.size w w' := by
  obtain ⟨t1, t2⟩ := askT_in hN k
  refine (who_ok 1000 sortU_all v B O l q.addr q.block (askT q k) w h hok hl (Nat.le_trans (subsAt_len _ _ _ _) hl) (by have := hN.t; omega)).mono ?_
  rintro e w' ⟨v', c, rfl, hU, hW, hB⟩
  have hc := hq.who t1 t2 hW
  subst hc
  obtain ⟨b, ⟨a, cap, rfl, h2, h3, h4, h5⟩⟩ := uRow_us hU
  rcases h4 with rfl | h4
  · exact ⟨b, cap, rfl, h2, h3, by simpa using h5 0 (by simp), hB⟩
  · cases h4

set_option maxHeartbeats 4000000 in
theorem told11_ok (w : World) (v vq : Value) (B O : Nat) (l : List Sp) (h : Sps w v B O l) (hok : OkAll l) (hl : l.length ≤ 1000) (QB QO : Nat) (A : List Sp) (hA : Sps w vq QB QO A) {now : Int} (hn : now ≤ 100000) (hq : ∀ q ∈ A, AskOK l q ∧ AskN now q) :
    Calls Tryz.prog 23 #[v, vq] w fun e w' => e = .returned (.bool true) ∧ Below w.heap.size w w' := by
  have HS : Hid (Sps w v B O l) := h
  obtain ⟨a1, d1, rfl, g1, g2, g3, _⟩ := h
  obtain ⟨a2, d2, rfl, f1, f2, f3, f4⟩ := hA
  have F4 : Hid (∀ i s, A[i]? = some s → SpAt w QB (QO + i * 6) s) := f4
  have HQ : Hid (∀ q ∈ A, AskOK l q ∧ AskN now q) := hq
  unfold maxLen at g2 f2
  clear f4 hq
  go_enter Tryz.func23, Tryz.ntmps23
  go_wp2
  go_loopg [5] A.length (fun gk i wr => ∃ (k : Nat), k + gk = A.length ∧ i = .int .i64 k ∧ Below w.heap.size w wr)
  case atStart => exact ⟨0, by omega, rfl, Below.refl _ _⟩
  case round =>
    obtain ⟨wx, rfl⟩ : ∃ wx, wx = wr := ⟨wr, rfl⟩
    obtain ⟨k, hk, rfl, hB⟩ := hrel
    by_cases hlt : k < A.length
    case neg =>
      have hge : ¬ (k : Int) < (A.length : Int) := by omega
      go_wp2
      go_ret
      exact ⟨rfl, hB⟩
    have hltI : (k : Int) < (A.length : Int) := by omega
    obtain rfl : a2 = some ⟨QB, QO, none⟩ := by
      rcases f3 with f3 | f3
      · exact f3
      · subst f3; simp at hlt
    obtain ⟨q, hq⟩ : ∃ q, A[k]? = some q := ⟨_, List.getElem?_eq_getElem hlt⟩
    obtain ⟨hq1, hq2⟩ := HQ.out q (List.mem_of_getElem? hq)
    obtain ⟨c0, c1, c2, c3, c4, c5⟩ := spAt_later (F4.out k q hq) hB
    have HWho : Hid (∀ wz, Below w.heap.size w wz → ∀ j, Calls Tryz.prog 59 #[.slice a1 l.length d1, .int .u32 q.addr, .int .i64 q.block, .int .i64 (askT q j)] wz fun e w' => ∃ b c, e = .returned (.slice (some ⟨b, 0, none⟩) 1 c) ∧ 1 ≤ c ∧ c ≤ maxLen ∧ w'.cell? ⟨b, 0, none⟩ = some (.int .u32 q.sub) ∧ Below wz.heap.size wz w') := fun wz hz j =>
      who_ask wz _ B O l (sps_later HS.out hz) hok hl hn hq1 hq2 j
    have HB : Hid (Below w.heap.size w wx) := hB
    have n1 := hq2.f
    have n2 := hq2.ft
    have n3 := hq2.t
    clear hq1 hq2 hq hB
    obtain ⟨q0, q1, q2, q3, q4, q5⟩ := q
    simp only at c0 c1 c2 c3 c4 c5 n1 n2 n3
    have hT : ∀ j, j < 3 → (#[Value.int .i64 q3, Value.int .i64 q4, Value.int .i64 ((q3 + q4) / 2)] : Array Value)[j]? = some (.int .i64 (askT ⟨q0, q1, q2, q3, q4, q5⟩ j)) := fun j hj => by
      match j, hj with
      | 0, _ => rfl
      | 1, _ => rfl
      | 2, _ => rfl
    obtain ⟨W, hW⟩ : ∃ W, W = (wx.alloc (.cells #[.int .u32 q0, .int .u32 q1, .int .i64 q2, .int .i64 q3, .int .i64 q4, .bool q5] 59)).alloc (.cells #[.int .i64 q3, .int .i64 q4, .int .i64 ((q3 + q4) / 2)] 2) := ⟨_, rfl⟩
    have hb1 := below_alloc wx (.cells #[.int .u32 q0, .int .u32 q1, .int .i64 q2, .int .i64 q3, .int .i64 q4, .bool q5] 59)
    have hb2 := below_alloc (wx.alloc (.cells #[.int .u32 q0, .int .u32 q1, .int .i64 q2, .int .i64 q3, .int .i64 q4, .bool q5] 59)) (.cells #[.int .i64 q3, .int .i64 q4, .int .i64 ((q3 + q4) / 2)] 2)
    have HBW : Hid (Below w.heap.size w W) := by show Below _ _ _; rw [hW]; exact HB.out.trans ((hb1.trans (hb2.mono hb1.size)).mono HB.out.size)
    have e0 : W.cell? ⟨wx.heap.size, 0, none⟩ = some (.int .u32 q0) := by rw [hW]; exact cell_later hb2 (by rw [(blk_new wx #[.int .u32 q0, .int .u32 q1, .int .i64 q2, .int .i64 q3, .int .i64 q4, .bool q5] _).cell]; rfl)
    have e1 : W.cell? ⟨wx.heap.size, 1, none⟩ = some (.int .u32 q1) := by rw [hW]; exact cell_later hb2 (by rw [(blk_new wx #[.int .u32 q0, .int .u32 q1, .int .i64 q2, .int .i64 q3, .int .i64 q4, .bool q5] _).cell]; rfl)
    have e2 : W.cell? ⟨wx.heap.size, 2, none⟩ = some (.int .i64 q2) := by rw [hW]; exact cell_later hb2 (by rw [(blk_new wx #[.int .u32 q0, .int .u32 q1, .int .i64 q2, .int .i64 q3, .int .i64 q4, .bool q5] _).cell]; rfl)
    have e3 : ∀ j, j < 3 → W.cell? ⟨wx.heap.size + 1, j, none⟩ = some (.int .i64 (askT ⟨q0, q1, q2, q3, q4, q5⟩ j)) := fun j hj => by
      have hs : wx.heap.size + 1 = (wx.alloc (.cells #[.int .u32 q0, .int .u32 q1, .int .i64 q2, .int .i64 q3, .int .i64 q4, .bool q5] 59)).heap.size := by simp
      rw [hW, hs, (blk_new _ #[.int .i64 q3, .int .i64 q4, .int .i64 ((q3 + q4) / 2)] _).cell]
      have := hT j hj
      simpa using this
    have HC : Hid (∀ wz, Below W.heap.size W wz → (wz.cell? ⟨wx.heap.size, 0, none⟩ = some (.int .u32 q0) ∧ wz.cell? ⟨wx.heap.size, 1, none⟩ = some (.int .u32 q1) ∧ wz.cell? ⟨wx.heap.size, 2, none⟩ = some (.int .i64 q2)) ∧ ∀ j, j < 3 → wz.cell? ⟨wx.heap.size + 1, j, none⟩ = some (.int .i64 (askT ⟨q0, q1, q2, q3, q4, q5⟩ j))) := fun wz hz =>
      ⟨⟨cell_later hz e0, cell_later hz e1, cell_later hz e2⟩, fun j hj => cell_later hz (e3 j hj)⟩
    have HWW : Hid (W = (wx.alloc (.cells #[.int .u32 q0, .int .u32 q1, .int .i64 q2, .int .i64 q3, .int .i64 q4, .bool q5] 59)).alloc (.cells #[.int .i64 q3, .int .i64 q4, .int .i64 ((q3 + q4) / 2)] 2)) := hW
    have HWho : Hid (∀ wz, Below W.heap.size W wz → ∀ j, Calls Tryz.prog 59 #[.slice a1 l.length d1, .int .u32 q1, .int .i64 q2, .int .i64 (askT ⟨q0, q1, q2, q3, q4, q5⟩ j)] wz fun e w' => ∃ b c, e = .returned (.slice (some ⟨b, 0, none⟩) 1 c) ∧ 1 ≤ c ∧ c ≤ maxLen ∧ w'.cell? ⟨b, 0, none⟩ = some (.int .u32 q0) ∧ Below wz.heap.size wz w') := fun wz hz j =>
      HWho.out wz (HBW.out.trans (hz.mono HBW.out.size)) j
    clear hW hb1 hb2 e0 e1 e2 e3 hT
    go_wp2_with fail
    rw [← HWW.out]
    clear HWW c0 c1 c2 c3 c4 c5
    generalize wx.heap.size = xa at *
    go_loopg [8] 3 (fun gk2 iv wr2 => ∃ j : Nat, j + gk2 = 3 ∧ iv = .int .i64 j ∧ Below W.heap.size W wr2)
    case atStart => exact ⟨0, by omega, rfl, Below.refl _ _⟩
    case round =>
      obtain ⟨wy, rfl⟩ : ∃ wy, wy = wr := ⟨wr, rfl⟩
      obtain ⟨j, hj, rfl, hBy⟩ := hrel
      have HBy : Hid (Below W.heap.size W wy) := hBy
      by_cases hj3 : j < 3
      case neg =>
        have hge : ¬ (j : Int) < 3 := by omega
        go_wp2
        go_roundg (A.length - (k + 1))
        case rel => exact ⟨k + 1, by omega, by go_num, HBW.out.trans (HBy.out.mono HBW.out.size)⟩
        case measure => omega
      have hjI : (j : Int) < 3 := by omega
      have HBd : Hid (Below W.heap.size W wy.drew) := HBy.out.drew
      obtain ⟨⟨y0, y1, y2⟩, y3⟩ := HC.out wy.drew HBd.out
      have hcall := HWho.out wy.drew HBd.out j
      have y3 := y3 j hj3
      have K1 : wy.drew.cell? ⟨xa, 0, none⟩ = some (.int .u32 q0) ∧ wy.drew.cell? ⟨xa, 1, none⟩ = some (.int .u32 q1) ∧ wy.drew.cell? ⟨xa, 2, none⟩ = some (.int .i64 q2) ∧ wy.drew.cell? ⟨xa + 1, j, none⟩ = some (.int .i64 (askT ⟨q0, q1, q2, q3, q4, q5⟩ j)) := ⟨y0, y1, y2, y3⟩
      clear hBy y0 y1 y2 y3
      generalize askT ⟨q0, q1, q2, q3, q4, q5⟩ j = tt at *
      go_wp2_with fail
      go_region_held3 (fun w' => w'.cell? ⟨xa, 0, none⟩ = some (.int .u32 q0) ∧ w'.cell? ⟨xa, 1, none⟩ = some (.int .u32 q1) ∧ w'.cell? ⟨xa, 2, none⟩ = some (.int .i64 q2) ∧ w'.cell? ⟨xa + 1, j, none⟩ = some (.int .i64 tt))
        (first | (with_reducible exact K1) | (with_reducible exact K2))
        (first | (go_at_call 59; refine hcall.mono ?_; rintro e w3 ⟨b3, c3, rfl, hc31, hc32, hc33, hB3⟩; have HB3 : Hid (Below W.heap.size W w3) := HBd.out.trans (hB3.mono HBd.out.size); have K2 : w3.cell? ⟨xa, 0, none⟩ = some (.int .u32 q0) ∧ w3.cell? ⟨xa, 1, none⟩ = some (.int .u32 q1) ∧ w3.cell? ⟨xa, 2, none⟩ = some (.int .i64 q2) ∧ w3.cell? ⟨xa + 1, j, none⟩ = some (.int .i64 tt) := ⟨cell_later hB3 K1.1, cell_later hB3 K1.2.1, cell_later hB3 K1.2.2.1, cell_later hB3 K1.2.2.2⟩; clear hB3))
      have z0 := K2.1
      unfold maxLen at hc32
      clear K1 K2 hcall HBy HBd
      go_wp2_with fail
      go_quiet (fail)
      rename_i nq
      have HB4 : Hid (Below W.heap.size W (w3.drewN nq)) := HB3.out.trans ((below_drewN w3 nq).mono HB3.out.size)
      go_wp2
      go_roundg (3 - (j + 1))
      case rel => exact ⟨j + 1, by omega, by go_num, HB4.out⟩
      case measure => omega

end Go.Proofs.YtafkkehcacdodaaGreat

namespace Go.Proofs.YtafkkehcacdodaaGreat
open Go.RowKit Go.Shelf

/-- What a disk's entries are behind an Open, whatever became of that. -/
theorem Rest.read {s : St} (h : Rest s) {now : Int} (hg : goodT now = true) : ∃ R, R.Sublist (moreE (startL s) now) ∧ foundE (bodK (opnS s now).now (opnS s now).n) = startL s ++ R := by
  have hgt : 0 ≤ now ∧ now ≤ 1099511627776 := of_decide_eq_true hg
  have hf : Fine (moreE (startL s) now) := more_fine (start_fine h.ok) hgt.1 hgt.2
  obtain ⟨R, r1, r2, ⟨hh, e1, e2⟩, _⟩ := h.opened (now := now)
  have hn : (opnS s now).n = s.n := (opn_ok h.ok (q := 0) (by rw [h.ops]; exact Nat.le_refl _) (by rw [h.since]; exact Nat.le_refl _) hgt.1 hgt.2).2.1
  refine ⟨foundE hh, ?_, ?_⟩
  · have h1 := found_sub e2
    rw [r2, found_bytes (hf.sub (List.take_sublist _ _))] at h1
    exact h1.trans (List.take_sublist _ _)
  · rw [hn, e1, found_app]
    rfl

/-- A list of entries that tells all that is asked for. -/
structure Tells (A : List Sp) (now : Int) (N : List En) : Prop where
  q : ∀ q ∈ A, AskOK (spans N) q ∧ AskN now q
  f : Fine N
  l : N.length ≤ 700

section
variable {w : World} {N D B k : Nat} {m : Bm} {G : List Tr} {ow tm : Nat → Int} {now : Int} {A : List Sp} {wr : World} {tag : Nat → Nat}

theorem Run.startC (h : Run w N D B k m G wr tag) (hk : k ≤ 150) (ch : List Int) : (startL (m.s.crash ch)).length ≤ 301 := by
  obtain ⟨hh, e1, e2⟩ := h.found ch
  have h1 := found_len hh
  have h2 := btw_len e2
  have h3 := h.G
  show (foundE (bodies (openT (m.s.crash ch)))).length ≤ _
  rw [bodies_bodK, e1]
  omega

theorem Run.tellsC (h : Run w N D B k m G wr tag) (hk : k ≤ 150) (hT : Told G m.D ow tm now A) (ch : List Int) {now2 : Int} (hn : now ≤ now2) (hg : goodT now2 = true) {R : List En} (hR : R.Sublist (moreE (startL (m.s.crash ch)) now2)) :
    Tells (A ++ lastA ow tm now 6) now (startL (m.s.crash ch) ++ R) := by
  have hgt : 0 ≤ now2 ∧ now2 ≤ 1099511627776 := of_decide_eq_true hg
  have hr : Rest (m.s.crash ch) := Rest.crash h.ok.nb.ok ch
  have hl := h.startC hk ch
  refine ⟨?_, (start_fine hr.ok).app ((more_fine (start_fine hr.ok) hgt.1 hgt.2).sub hR), ?_⟩
  · obtain ⟨hh, e1, e2⟩ := h.found ch
    have hs : startL (m.s.crash ch) = foundE hh := by
      show foundE (bodies (openT (m.s.crash ch))) = _
      rw [bodies_bodK, e1]
    rw [hs] at hR ⊢
    exact hT.last e2 hn hR
  · have h1 := hR.length_le
    have h2 := more_len (startL (m.s.crash ch)) now2
    rw [List.length_append]
    omega

theorem Run.tellsN (h : Run w N D B k m G wr tag) (hk : k ≤ 150) (hT : Told G m.D ow tm now A) : Tells (A ++ lastA ow tm now 6) now (foundE (bodK m.s.now m.s.n)) := by
  obtain ⟨hh, e1, e2⟩ := h.foundN
  have h1 := found_len hh
  have h2 := btw_len e2
  have h3 := h.G
  have hf : Fine (foundE (bodK m.s.now m.s.n)) := start_fine h.ok.nb.ok
  refine ⟨?_, hf, ?_⟩
  · have := hT.last e2 (Int.le_refl _) (List.nil_sublist _)
    rw [List.append_nil] at this
    rw [e1]
    exact this
  · rw [e1]; omega

theorem Tells.ok {E : List En} (h : Tells A now E) (hn : now ≤ 100000) {W : World} {base : Nat} {v vq : Value} {SB SO : Nat} (hS : Sps W v SB SO (spans E)) (hA : AskR W tag base vq A) :
    Calls Tryz.prog 23 #[v, vq] W fun e w' => e = .returned (.bool true) ∧ Below W.heap.size W w' := by
  obtain ⟨QB, QO, hQ⟩ := win_sps hA.1
  have h1 := spans_length E
  have h2 := h.l
  exact told11_ok W v vq SB SO (spans E) hS (ok_spans h.f.ok) (by omega) QB QO A hQ hn h.q

theorem Tells.spans {E : List En} (h : Tells A now E) {W : World} {v : Value} {EB EO : Nat} (hE : Ens W v EB EO E) :
    Calls Tryz.prog 25 #[v] W fun e w' => ∃ r SB SO, e = .returned r ∧ Sps w' r SB SO (spans E) ∧ Below W.heap.size W w' := by
  have h2 := h.l
  refine (spans_ok v EB EO E W hE h.f.ok (by omega)).mono ?_
  rintro e w' ⟨r, rfl, hR, hB⟩
  obtain ⟨SB, SO, hS⟩ := sps_row hR
  exact ⟨r, SB, SO, rfl, hS, hB⟩

/-- The entries of a disk. -/
theorem tells_read {E : List En} {o : Nat} (W : World) (tag : Nat → Nat) (base : Nat) (s : St) (p : PL) (hP : PD W tag base o s p) (D : Nat) (hD : p.D = D) (hE : foundE (bodK s.now s.n) = E) :
    Calls Tryz.prog 26 #[.pointer (some ⟨D, 0, none⟩)] W fun e w' => ∃ r EB EO, e = .returned r ∧ Ens w' r EB EO E ∧ Below W.heap.size W w' := by
  refine (read11_ok W tag base o s p hP D hD).mono ?_
  rintro e w' ⟨r, rfl, hW, _, hB⟩
  rw [hE] at hW
  obtain ⟨EB, EO, h1, _⟩ := win_ens hW
  exact ⟨r, EB, EO, rfl, h1, hB⟩

end

/-- What an Open of a disk behind a crash does. -/
theorem open_tells (w : World) (tag : Nat → Nat) (base : Nat) (s : St) (p : PL) (h : PD w tag base 4 s p) (hr : Rest s) (hbase : base ≤ w.heap.size) (now : Int) (hg : goodT now = true) (hL : (startL s).length ≤ 301) :
    Calls Tryz.prog 9 #[.pointer (some ⟨p.D, 0, none⟩), .int .i64 now] w fun e w' => ∃ X tag' B p5, e = .returned (.tuple #[bookV X B, .int .i64 X]) ∧ (X = 0 ∨ X = 6) ∧ StepR tag tag' base 4 6 w w' ∧ PD w' tag' base 4 (opnS s now) p5 ∧ p5.D = p.D ∧
      (X = 0 → BK w' tag' base 4 p.D B (opnB s now)) := by
  have hgt : 0 ≤ now ∧ now ≤ 1099511627776 := of_decide_eq_true hg
  refine (bopen_ok w tag base 4 (by omega) s p h hbase now hg (by rw [hr.ops]; omega) (by rw [hr.since]; simp) (by rw [hr.outs]; simp) (by omega)).mono ?_
  rintro e w' ⟨tag', hS, B, hK, rfl⟩
  have hK' := hK
  obtain ⟨p5, q5, kv, dv, k0, k1, k2, k3⟩ := hK'
  exact ⟨opnE s now, tag', B, p5, rfl, wrt_quiet _ hr.outs (more_fine (start_fine hr.ok) hgt.1 hgt.2), hS, k1, k0, fun hX => by rw [← opn_wr s now hX]; exact hK⟩

theorem PD.fresh {w w' : World} {tag : Nat → Nat} {base o : Nat} {s : St} {p : PL} (h : PD w tag base o s p) (hb : Below w.heap.size w w') : PD w' tag base o s p := h.later hb

end Go.Proofs.YtafkkehcacdodaaGreat
