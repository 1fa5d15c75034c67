/- BookTells, behind its deeds: what each disk then tells. -/
import Derived.Test.YtafkkehcacdodaaGreatBokTellsAux
import Derived.Test.YtafkkehcacdodaaGreatBokToldP
import Derived.Test.YtafkkehcacdodaaGreatBokReopen
set_option maxRecDepth 100000
namespace Go.Proofs.YtafkkehcacdodaaGreat
open Go.RowKit Go.Shelf

/-- What a disk's entries are behind an Open, whatever became of that. -/
theorem Rest.read {s : St} (h : Rest s) {now : Int} (hg : goodT now = true) : ∃ R, R.Sublist (moreE (startL s) now) ∧ foundE (bodK (opnS s now).now (opnS s now).n) = startL s ++ R := by
  have hgt : 0 ≤ now ∧ now ≤ 1099511627776 := of_decide_eq_true hg
  have hf : Fine (moreE (startL s) now) := more_fine (start_fine h.ok) hgt.1 hgt.2
  obtain ⟨R, r1, r2, ⟨hh, e1, e2⟩, _⟩ := h.opened (now := now)
  have hn : (opnS s now).n = s.n := (opn_ok h.ok (q := 0) (by rw [h.ops]; exact Nat.le_refl _) (by rw [h.since]; exact Nat.le_refl _) hgt.1 hgt.2).2.1
  refine ⟨foundE hh, ?_, ?_⟩
  · have h1 := found_sub e2
    rw [r2, found_bytes (hf.sub (List.take_sublist _ _))] at h1
    exact h1.trans (List.take_sublist _ _)
  · rw [hn, e1, found_app]
    rfl

/-- A list of entries that tells all that is asked for. -/
structure Tells (A : List Sp) (now : Int) (N : List En) : Prop where
  q : ∀ q ∈ A, AskOK (spans N) q ∧ AskN now q
  f : Fine N
  l : N.length ≤ 700

section
variable {w : World} {N D B k : Nat} {m : Bm} {G : List Tr} {ow tm : Nat → Int} {now : Int} {A : List Sp} {wr : World} {tag : Nat → Nat}

theorem Run.startC (h : Run w N D B k m G wr tag) (hk : k ≤ 150) (ch : List Int) : (startL (m.s.crash ch)).length ≤ 301 := by
  obtain ⟨hh, e1, e2⟩ := h.found ch
  have h1 := found_len hh
  have h2 := btw_len e2
  have h3 := h.G
  show (foundE (bodies (openT (m.s.crash ch)))).length ≤ _
  rw [bodies_bodK, e1]
  omega

theorem Run.tellsC (h : Run w N D B k m G wr tag) (hk : k ≤ 150) (hT : Told G m.D ow tm now A) (ch : List Int) {now2 : Int} (hn : now ≤ now2) (hg : goodT now2 = true) {R : List En} (hR : R.Sublist (moreE (startL (m.s.crash ch)) now2)) :
    Tells (A ++ lastA ow tm now 6) now (startL (m.s.crash ch) ++ R) := by
  have hgt : 0 ≤ now2 ∧ now2 ≤ 1099511627776 := of_decide_eq_true hg
  have hr : Rest (m.s.crash ch) := Rest.crash h.ok.nb.ok ch
  have hl := h.startC hk ch
  refine ⟨?_, (start_fine hr.ok).app ((more_fine (start_fine hr.ok) hgt.1 hgt.2).sub hR), ?_⟩
  · obtain ⟨hh, e1, e2⟩ := h.found ch
    have hs : startL (m.s.crash ch) = foundE hh := by
      show foundE (bodies (openT (m.s.crash ch))) = _
      rw [bodies_bodK, e1]
    rw [hs] at hR ⊢
    exact hT.last e2 hn hR
  · have h1 := hR.length_le
    have h2 := more_len (startL (m.s.crash ch)) now2
    rw [List.length_append]
    omega

theorem Run.tellsN (h : Run w N D B k m G wr tag) (hk : k ≤ 150) (hT : Told G m.D ow tm now A) : Tells (A ++ lastA ow tm now 6) now (foundE (bodK m.s.now m.s.n)) := by
  obtain ⟨hh, e1, e2⟩ := h.foundN
  have h1 := found_len hh
  have h2 := btw_len e2
  have h3 := h.G
  have hf : Fine (foundE (bodK m.s.now m.s.n)) := start_fine h.ok.nb.ok
  refine ⟨?_, hf, ?_⟩
  · have := hT.last e2 (Int.le_refl _) (List.nil_sublist _)
    rw [List.append_nil] at this
    rw [e1]
    exact this
  · rw [e1]; omega

theorem Tells.ok {E : List En} (h : Tells A now E) (hn : now ≤ 100000) {W : World} {base : Nat} {v vq : Value} {SB SO : Nat} (hS : Sps W v SB SO (spans E)) (hA : AskR W tag base vq A) :
    Calls Tryz.prog 23 #[v, vq] W fun e w' => e = .returned (.bool true) ∧ Below W.heap.size W w' := by
  obtain ⟨QB, QO, hQ⟩ := win_sps hA.1
  have h1 := spans_length E
  have h2 := h.l
  exact told11_ok W v vq SB SO (spans E) hS (ok_spans h.f.ok) (by omega) QB QO A hQ hn h.q

theorem Tells.spans {E : List En} (h : Tells A now E) {W : World} {v : Value} {EB EO : Nat} (hE : Ens W v EB EO E) :
    Calls Tryz.prog 25 #[v] W fun e w' => ∃ r SB SO, e = .returned r ∧ Sps w' r SB SO (spans E) ∧ Below W.heap.size W w' := by
  have h2 := h.l
  refine (spans_ok v EB EO E W hE h.f.ok (by omega)).mono ?_
  rintro e w' ⟨r, rfl, hR, hB⟩
  obtain ⟨SB, SO, hS⟩ := sps_row hR
  exact ⟨r, SB, SO, rfl, hS, hB⟩

/-- The entries of a disk. -/
theorem tells_read {E : List En} {o : Nat} (W : World) (tag : Nat → Nat) (base : Nat) (s : St) (p : PL) (hP : PD W tag base o s p) (D : Nat) (hD : p.D = D) (hE : foundE (bodK s.now s.n) = E) :
    Calls Tryz.prog 26 #[.pointer (some ⟨D, 0, none⟩)] W fun e w' => ∃ r EB EO, e = .returned r ∧ Ens w' r EB EO E ∧ Below W.heap.size W w' := by
  refine (read11_ok W tag base o s p hP D hD).mono ?_
  rintro e w' ⟨r, rfl, hW, _, hB⟩
  rw [hE] at hW
  obtain ⟨EB, EO, h1, _⟩ := win_ens hW
  exact ⟨r, EB, EO, rfl, h1, hB⟩

end

/-- What an Open of a disk behind a crash does. -/
theorem open_tells (w : World) (tag : Nat → Nat) (base : Nat) (s : St) (p : PL) (h : PD w tag base 4 s p) (hr : Rest s) (hbase : base ≤ w.heap.size) (now : Int) (hg : goodT now = true) (hL : (startL s).length ≤ 301) :
    Calls Tryz.prog 9 #[.pointer (some ⟨p.D, 0, none⟩), .int .i64 now] w fun e w' => ∃ X tag' B p5, e = .returned (.tuple #[bookV X B, .int .i64 X]) ∧ (X = 0 ∨ X = 6) ∧ StepR tag tag' base 4 6 w w' ∧ PD w' tag' base 4 (opnS s now) p5 ∧ p5.D = p.D ∧
      (X = 0 → BK w' tag' base 4 p.D B (opnB s now)) := by
  have hgt : 0 ≤ now ∧ now ≤ 1099511627776 := of_decide_eq_true hg
  refine (bopen_ok w tag base 4 (by omega) s p h hbase now hg (by rw [hr.ops]; omega) (by rw [hr.since]; simp) (by rw [hr.outs]; simp) (by omega)).mono ?_
  rintro e w' ⟨tag', hS, B, hK, rfl⟩
  have hK' := hK
  obtain ⟨p5, q5, kv, dv, k0, k1, k2, k3⟩ := hK'
  exact ⟨opnE s now, tag', B, p5, rfl, wrt_quiet _ hr.outs (more_fine (start_fine hr.ok) hgt.1 hgt.2), hS, k1, k0, fun hX => by rw [← opn_wr s now hX]; exact hK⟩

theorem PD.fresh {w w' : World} {tag : Nat → Nat} {base o : Nat} {s : St} {p : PL} (h : PD w tag base o s p) (hb : Below w.heap.size w w') : PD w' tag base o s p := h.later hb

end Go.Proofs.YtafkkehcacdodaaGreat
