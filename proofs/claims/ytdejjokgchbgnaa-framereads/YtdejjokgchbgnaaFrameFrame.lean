/- The contracts of the reader's frame and datagram. -/
import Derived.Test.YtdejjokgchbgnaaFrameMid
set_option maxRecDepth 100000
namespace Go.Proofs.Ytdejjokgchbgnaa
open Go.RowKit
attribute [local go_sem ↓] Go.wp_at_zero Go.wp_at_succ

set_option maxHeartbeats 2000000 in
theorem frame_any (p : Dg) (ao ab : Option Addr) (no nb co cb : Nat) (k f t : Int) (w : World) :
    Calls Try.prog 60 #[ipV p (.slice ao no co) (.slice ab nb cb), .int .i64 k, .int .i64 f, .int .i64 t] w fun e w' => e = .returned (frV p (.slice ao no co) (.slice ab nb cb) ⟨0, k, f, t, 0, Inn.zero⟩) ∧ Below w.heap.size w w' := by
  go_enter Try.func60, Try.ntmps60
  go_wp2_with (refine store_fr rfl (.tmp 8) (.tmp 22) rfl (w.heap.size + 1) (frC p (.slice ao no co) (.slice ab nb cb) ⟨0, k, f, t, 0, Inn.zero⟩) rfl rfl ?ht rfl ?h1 ?_)
  case ht => exact (fc_new (by simp) (Below.refl _ _)).there rfl
  case h1 => exact oneFr _ _ _ _ _ _ _ _
  have hr := range_set (frL p (.slice ao no co) (.slice ab nb cb) ⟨0, k, f, t, 0, Inn.zero⟩) rfl (FC.there (fc_new (n := w.heap.size + 1) (w := w.alloc (.cells (ipC p (.slice ao no co) (.slice ab nb cb)) 65)) (C := zeroFC) (t := 37) (by simp) (Below.refl _ _)) rfl)
  refine bodyPost_ret (results_fr1 rfl _ _ (w.heap.size + 1) _ rfl hr rfl) rfl ?_
  exact ⟨rfl, setCells_below _ _ _ _ _ (by simp) (below_trans (below_alloc _ _) (below_alloc _ _))⟩

/-- The reader's box. -/
theorem ip_box {w w' : World} {p : Dg} {vo vb : Value} {t : TypeId} (hb : Below (w.alloc (.cells (ipC p vo vb) t)).heap.size (w.alloc (.cells (ipC p vo vb) t)) w') :
    w'.cell? ⟨w.heap.size, 0, none⟩ = some (.int .i64 p.tos) ∧ w'.cell? ⟨w.heap.size, 1, none⟩ = some (.int .i64 p.id) ∧ w'.cell? ⟨w.heap.size, 2, none⟩ = some (.bool p.df) ∧ w'.cell? ⟨w.heap.size, 3, none⟩ = some (.bool p.mf) ∧
    w'.cell? ⟨w.heap.size, 4, none⟩ = some (.int .i64 p.off) ∧ w'.cell? ⟨w.heap.size, 5, none⟩ = some (.int .i64 p.ttl) ∧ w'.cell? ⟨w.heap.size, 6, none⟩ = some (.int .i64 p.proto) ∧ w'.cell? ⟨w.heap.size, 7, none⟩ = some (.int .u32 p.src) ∧
    w'.cell? ⟨w.heap.size, 8, none⟩ = some (.int .u32 p.dst) ∧ w'.cell? ⟨w.heap.size, 9, none⟩ = some vo ∧ w'.cell? ⟨w.heap.size, 10, none⟩ = some vb :=
  ⟨box_cell hb 0 _ rfl, box_cell hb 1 _ rfl, box_cell hb 2 _ rfl, box_cell hb 3 _ rfl, box_cell hb 4 _ rfl, box_cell hb 5 _ rfl, box_cell hb 6 _ rfl, box_cell hb 7 _ rfl, box_cell hb 8 _ rfl, box_cell hb 9 _ rfl, box_cell hb 10 _ rfl⟩

set_option maxHeartbeats 4000000 in
theorem datagram_ok (p : Dg) (ao : Option Addr) (no co b off nb cb : Nat) (w : World) (k : p.Ok) (hA : At w b off nb cb p.body) (hl : nb ≤ 70000) (g : UGood p.src p.dst p.body) :
    Calls Try.prog 43 #[ipV p (.slice ao no co) (.slice (some ⟨b, off, none⟩) nb cb)] w fun e w' =>
      e = .returned (.tuple #[frV p (.slice ao no co) (.slice (some ⟨b, off, none⟩) nb cb) ⟨0, 1, w2 p.body 0, w2 p.body 2, 0, Inn.zero⟩, .int .i64 0]) ∧ Below w.heap.size w w' := by
  have hb1 := below_alloc w (.cells (ipC p (.slice ao no co) (.slice (some ⟨b, off, none⟩) nb cb)) 65)
  have hb2 := below_alloc (w.alloc (.cells (ipC p (.slice ao no co) (.slice (some ⟨b, off, none⟩) nb cb)) 65)) (.cells zeroFC 37)
  have hu := uparse_ok p.src p.dst b off nb cb p.body _ k.src0 k.src1 k.dst0 k.dst1 (hA.later (below_trans hb1 hb2)) hl g
  clear hA g
  go_enter Try.func43, Try.ntmps43
  go_wp2_with fail
  refine hu.mono ?_
  rintro e w3 ⟨a1, k1, rfl, -, hb3⟩
  have F3 := fc_new (n := w.heap.size + 1) (by simp) hb3
  obtain ⟨c0, c1, c2, c3, c4, c5, c6, c7, c8, c9, c10⟩ := ip_box (below_trans hb2 hb3)
  have hs3 := hb3.size
  simp only [World.size_alloc] at hs3
  have bel3 := below_trans (below_trans hb1 hb2) hb3
  have q1 : w.heap.size < w3.heap.size := by omega
  have q2 : ¬ (w.heap.size = w3.heap.size) := by omega
  clear hu hb1 hb2 hb3
  go_wp2_with fail
  refine (frame_any p ao (some ⟨b, off, none⟩) no nb co cb 1 (w2 p.body 0) (w2 p.body 2) _).mono ?_
  rintro e w4 ⟨rfl, hb4⟩
  have hb34 := below_trans (below_alloc _ _) hb4
  have F4 := F3.later (by omega) hb34
  have bel4 := below_trans bel3 hb34
  clear c0 c1 c2 c3 c4 c5 c6 c7 c8 c9 c10 F3 bel3 hb4 hb34
  go_wp2_with (refine store_fr rfl (.tmp 2) (.tmp 29) rfl (w.heap.size + 1) (frC p (.slice ao no co) (.slice (some ⟨b, off, none⟩) nb cb) ⟨0, 1, w2 p.body 0, w2 p.body 2, 0, Inn.zero⟩) rfl rfl ?ht rfl ?h1 ?_)
  case ht => exact F4.there rfl
  case h1 => exact oneFr _ _ _ _ _ _ _ _
  refine bodyPost_ret (results_fr2 rfl _ _ (w.heap.size + 1) _ rfl (range_set (frL p (.slice ao no co) (.slice (some ⟨b, off, none⟩) nb cb) ⟨0, 1, w2 p.body 0, w2 p.body 2, 0, Inn.zero⟩) rfl (F4.there rfl)) rfl) rfl ?_
  exact ⟨rfl, setCells_below _ _ _ _ _ (by omega) bel4⟩

set_option maxHeartbeats 4000000 in
theorem datagram_no (p : Dg) (ao ab : Option Addr) (no co b off nb cb : Nat) (w : World) (k : p.Ok) (ha : ab = some ⟨b, off, none⟩ ∨ p.body = []) (hA : At w b off nb cb p.body) (hl : nb ≤ 70000) (g : ¬ parseU p.src p.dst p.body = 0) :
    Calls Try.prog 43 #[ipV p (.slice ao no co) (.slice ab nb cb)] w fun e w' =>
      e = .returned (.tuple #[zeroFV, .int .i64 (whyI (parseU p.src p.dst p.body))]) ∧ Below w.heap.size w w' := by
  have hb1 := below_alloc w (.cells (ipC p (.slice ao no co) (.slice ab nb cb)) 65)
  have hb2 := below_alloc (w.alloc (.cells (ipC p (.slice ao no co) (.slice ab nb cb)) 65)) (.cells zeroFC 37)
  have hu := uparse_no p.src p.dst ab b off nb cb p.body _ k.src0 k.src1 k.dst0 k.dst1 ha (hA.later (below_trans hb1 hb2)) hl g
  have hne : (parseU p.src p.dst p.body != 0) = true := by rw [bne_iff_ne]; exact g
  clear hA g
  go_enter Try.func43, Try.ntmps43
  go_wp2_with fail
  refine hu.mono ?_
  rintro e w3 ⟨rfl, hb3⟩
  have F3 := fc_new (n := w.heap.size + 1) (by simp) hb3
  have hs3 := hb3.size
  simp only [World.size_alloc] at hs3
  have bel3 := below_trans (below_trans hb1 hb2) hb3
  clear hu hb1 hb2 hb3
  go_wp2_with fail
  refine (whyOf_any _ _).mono ?_
  rintro e w4 ⟨rfl, rfl⟩
  have F4 := F3.later (by omega) (below_alloc w3 (.cells (udC Ud.zero (.slice none 0 0)) 49))
  have bel4 := below_trans bel3 (below_alloc w3 (.cells (udC Ud.zero (.slice none 0 0)) 49))
  go_wp2_with (refine store_fr rfl (.tmp 2) (.tmp 21) rfl (w.heap.size + 1) zeroFC rfl rfl ?ht rfl ?h1 ?_)
  case ht => exact F4.there rfl
  case h1 => exact oneZ
  refine bodyPost_ret (results_fr2 rfl _ _ (w.heap.size + 1) _ rfl (range_set zeroFC.toList rfl (F4.there rfl)) rfl) rfl ?_
  exact ⟨rfl, setCells_below _ _ _ _ _ (by omega) bel4⟩
end Go.Proofs.Ytdejjokgchbgnaa
