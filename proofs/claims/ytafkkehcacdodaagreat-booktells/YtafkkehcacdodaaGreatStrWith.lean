/- with: the sector's bytes with a frame at the place. -/
import Derived.Test.YtafkkehcacdodaaGreatStrSmall
set_option maxRecDepth 100000
namespace Go.Proofs.YtafkkehcacdodaaGreat
open Go.RowKit

theorem copy_row (w : World) (b o n c : Nat) (ad : Addr) (m c' : Nat) (cs : List Value) (hl : cs.length = Nat.min m n) (hsrc : ∀ j v, cs[j]? = some v → w.cell? (ad.add j) = some v) (hth : w.there b o cs.length) (h1 : ∀ v ∈ cs, v.oneCell' = true) :
    (Builtin.copy_ #[39, 39] 3 #[.slice (some ⟨b, o, none⟩) n c, .slice (some ad) m c']).run Tryz.prog w = .ok (.int .i64 cs.length) (w.setCells b o cs) := by
  have := run_copy_cells (P := Tryz.prog) w 39 39 3 5 b o n c ad m c' cs Tryz.underlying39 size5 hl hsrc (fun j hj => (hth j hj).1) (fun j hj => (hth j hj).2) h1
  rw [this]; rfl

theorem laid_with (sc f : List Int) (u : Nat) (hs : sc.length = 64) (hu : u + f.length ≤ 64) : splice (splice (bytesV (zeros 64)) 0 (bytesV (sc.take u))) u (bytesV f) = bytesV (withB sc u f) := by
  have hl1 : (splice (bytesV (zeros 64)) 0 (bytesV (sc.take u))).length = 64 := by rw [splice_length _ _ _ (by simp [zeros]; omega)]; simp [zeros]
  apply List.ext_getElem?
  intro j
  rw [splice_get _ _ _ _ (by rw [hl1]; simp; omega), splice_get _ _ _ _ (by simp [zeros]; omega)]
  unfold withB
  simp only [List.map_append, List.getElem?_append, List.length_map, List.length_take, List.length_append, zeros, List.map_replicate, List.getElem?_replicate, List.getElem?_map, Nat.zero_add]
  rw [Nat.min_eq_left (by omega)]
  by_cases h1 : j < u
  · rw [if_neg (by omega), if_pos (by omega), if_pos (by omega), if_pos h1]; simp
  · by_cases h2 : j < u + f.length
    · rw [if_pos (by omega), if_pos h2, if_neg h1]
    · rw [if_neg (by omega), if_neg (by omega), if_neg h2]
      by_cases h3 : j < 64
      · rw [if_pos h3, if_pos (by omega)]
      · rw [if_neg h3, if_neg (by omega)]

theorem row_bts {w : World} {g cap n : Nat} {l : List Int} (h : Row w 1 g cap n (bytesV l)) (hb : isBytes l) : Bts w (.slice (some ⟨g, 0, none⟩) n cap) l := by
  have hl : l.length = n := by have := h.1; simpa using this
  subst hl
  refine ⟨_, cap, g, 0, rfl, h.2.1, h.2.2.1, hb, .inl rfl, fun i hi => ?_⟩
  rw [Nat.zero_add, h.cell i (by omega)]
  simp [List.getElem?_eq_getElem hi]

set_option maxHeartbeats 2000000 in
theorem with_ok (w : World) (tag : Nat → Nat) (base o o' : Nat) (s : St) (p : PL) (h : PD w tag base o s p) (t : Sd) (q : SL) (hq : PO w tag base o' p.D t q) (hp : t.pos < s.n) (v : Value) (f : List Int) (hv : Bts w v f) (hf : 1 ≤ f.length) (hu : t.used + f.length ≤ 64) :
    Calls Tryz.prog 111 #[.pointer (some ⟨q.S, 0, none⟩), v] w fun e w' => ∃ g, e = .returned (.slice (some ⟨g, 0, none⟩) 64 64) ∧ w.heap.size ≤ g ∧ Bts w' (.slice (some ⟨g, 0, none⟩) 64 64) (withB (sec s.now t.pos) t.used f) ∧ Below w.heap.size w w' := by
  obtain ⟨i0, hi, hz0, hz1, hz2⟩ := info_parts info5
  have hsl := sec_len h.ok.nl hp
  have hsb := sec_bytes h.ok.nb t.pos
  have hfb : isBytes f := by obtain ⟨_, _, _, _, _, _, _, hb, _⟩ := hv; exact hb
  have h0 := hq.s0
  have h1 := hq.s1
  have h2 := hq.s2
  have hSlt := hq.bS.lt
  have HPD : Hid (PD w tag base o s p) := h
  have HV : Hid (Bts w v f) := hv
  obtain ⟨fa, fc, hfv, hfl, hfm, _⟩ := bts_src hv
  subst hfv
  unfold maxLen at hfm
  have huI : (t.used : Int) ≤ 64 := by omega
  have huI2 : (t.used : Int) < 64 := by omega
  clear h hq hv
  go_enter Tryz.func111, Tryz.ntmps111
  go_wp2_with (at_make; refine wpList_make_full _ rfl _ _ 39 rfl w.heap.size 5 i0 (.int .u8 0) 1 Tryz.underlying39 hi hz0 hz1 .i64 .i64 _ _ 64 rfl rfl rfl rfl (by rw [hz2]; omega) (by unfold maxLen; omega) (Nat.le_refl _) ?_; intro w1 hown hgrow)
  rw [made8] at hown
  have hB1 : Below w.heap.size w w1 := (Below.refl _ _).grown hgrow (Nat.le_refl _) (fun k hk => by cases hk)
  have hs1 := hB1.size
  have hrow := row_of_owns hown
  have hBd : Below w.heap.size w w1.drew := hB1.drew
  have HR := read_ok w1.drew tag base o s p (HPD.out.later hBd) t.pos hp
  have hB2 : Below w.heap.size w (w1.drew.alloc (.cells (bytesV (sec s.now t.pos)).toArray 103)) := hBd.trans ((below_alloc w1.drew _).mono hs1)
  have K1 : w1.drew.cell? ⟨q.S, 0, none⟩ = some (.pointer (some ⟨p.D, 0, none⟩)) ∧ w1.drew.cell? ⟨q.S, 1, none⟩ = some (.int .i64 t.pos) := ⟨cell_later hBd h0, cell_later hBd h1⟩
  have K2 : Hid ((w1.drew.alloc (.cells (bytesV (sec s.now t.pos)).toArray 103)).cell? ⟨q.S, 0, none⟩ = some (.pointer (some ⟨p.D, 0, none⟩)) ∧ (w1.drew.alloc (.cells (bytesV (sec s.now t.pos)).toArray 103)).cell? ⟨q.S, 1, none⟩ = some (.int .i64 t.pos)) := ⟨cell_later hB2 h0, cell_later hB2 h1⟩
  have hr2 : Row (w1.drew.alloc (.cells (bytesV (sec s.now t.pos)).toArray 103)) 1 w.heap.size 64 64 (bytesV (zeros 64)) := (hrow.later (Below.refl _ _).drew).later (below_alloc _ _)
  have hsrc := blk_new w1.drew (bytesV (sec s.now t.pos)).toArray 103
  have hg2 := cell_later hB2 h2
  have hv2 := HV.out.later hB2
  obtain ⟨W2, hW2⟩ : ∃ W2, W2 = w1.drew.alloc (.cells (bytesV (sec s.now t.pos)).toArray 103) := ⟨_, rfl⟩
  rw [← hW2] at hr2 hsrc hg2 hv2 hB2 HR K2
  have hsz2 : w1.heap.size < W2.heap.size := hsrc.lt
  have hth1 := hr2.there 0 t.used (by omega)
  have hcl : (bytesV ((sec s.now t.pos).take t.used)).length = t.used := by simp; omega
  have hcp1 := copy_row W2 w.heap.size 0 t.used 64 ⟨w1.heap.size, 0, none⟩ 64 64 (bytesV ((sec s.now t.pos).take t.used)) (by rw [hcl]; exact (Nat.min_eq_right (by omega)).symm)
    (fun j v hj => by
      rw [add_at, Nat.zero_add]
      have hj' : j < t.used := by have := (List.getElem?_eq_some_iff.1 hj).1; omega
      have := hsrc.cell j
      rw [show w1.drew.heap.size = w1.heap.size from rfl] at this
      rw [this, ← hj]
      simp [hj']) (by rw [hcl]; exact hth1) (ones_bytes _)
  have hr3 := hr2.sets 0 (bytesV ((sec s.now t.pos).take t.used)) (by rw [hcl]; omega)
  have hB3 : Below w.heap.size W2 (W2.setCells w.heap.size 0 (bytesV ((sec s.now t.pos).take t.used))) := below_setCells w.heap.size (Nat.le_refl _) _ _
  have hg3 : (W2.setCells w.heap.size 0 (bytesV ((sec s.now t.pos).take t.used))).cell? ⟨q.S, 2, none⟩ = some (.int .i64 t.used) := by
    rw [World.cell?_setCells_out _ _ _ _ _ (fun e _ => absurd e (by show q.S ≠ w.heap.size; omega))]; exact hg2
  have hv3 : Bts (W2.setCells w.heap.size 0 (bytesV ((sec s.now t.pos).take t.used))) (.slice fa f.length fc) f := HV.out.later (hB2.trans hB3)
  obtain ⟨W3, hW3⟩ : ∃ W3, W3 = W2.setCells w.heap.size 0 (bytesV ((sec s.now t.pos).take t.used)) := ⟨_, rfl⟩
  rw [← hW3] at hr3 hB3 hg3 hv3 hcp1
  obtain ⟨fa', fc', e, _, _, hsf⟩ := bts_src hv3
  simp only [Value.slice.injEq, true_and] at e
  obtain ⟨rfl, rfl⟩ := e
  rcases hsf with ⟨ad, rfl, hsf⟩ | h00
  case inr => omega
  have hcp2 := copy_row W3 w.heap.size t.used (64 - t.used) (64 - t.used) ad f.length fc (bytesV f) (by rw [List.length_map]; exact (Nat.min_eq_left (by omega)).symm) hsf (hr3.there t.used _ (by simp; omega)) (ones_bytes _)
  have hr4 := hr3.sets t.used (bytesV f) (by simp; omega)
  rw [laid_with _ _ _ hsl hu] at hr4
  have HF : Hid (Bts (W3.setCells w.heap.size t.used (bytesV f)) (.slice (some ⟨w.heap.size, 0, none⟩) 64 64) (withB (sec s.now t.pos) t.used f) ∧ Below w.heap.size w (W3.setCells w.heap.size t.used (bytesV f))) :=
    ⟨row_bts hr4 (withB_bytes _ _ _ hsb hfb), (hB2.trans hB3).trans (below_setCells w.heap.size (Nat.le_refl _) _ _)⟩
  rw [hcl] at hcp1
  rw [List.length_map] at hcp2
  have HW2 : Hid (W2 = w1.drew.alloc (.cells (bytesV (sec s.now t.pos)).toArray 103)) := hW2
  clear hown hgrow hrow hB1 hBd hB2 hB3 hr2 hr3 hr4 hsrc hth1 hv2 hv3 hsf hW2 hW3 h0 h1 h2 hs1 hsz2 hsl hsb
  go_region_held3 (fun w' => w'.cell? ⟨q.S, 0, none⟩ = some (.pointer (some ⟨p.D, 0, none⟩)) ∧ w'.cell? ⟨q.S, 1, none⟩ = some (.int .i64 t.pos))
    (first | (with_reducible exact K1) | (with_reducible exact K2.out)) ((go_at_call 63; refine HR.mono ?_; rintro e w2 ⟨rfl, hx⟩; have HX : Hid (w2 = W2) := hx; clear hx; rw [HX.out]))
  all_goals
    go_wp2_with (first
      | (refine wpl_copy_run rfl (.tmp 26) (.tmp 27) 39 rfl _ _ rfl rfl hcp1 ?_)
      | (refine wpl_copy_run rfl (.tmp 34) (.tmp 35) 39 rfl _ _ rfl rfl hcp2 ?_))
    go_ret
    exact ⟨w.heap.size, rfl, Nat.le_refl _, HF.out.1, HF.out.2⟩

end Go.Proofs.YtafkkehcacdodaaGreat
