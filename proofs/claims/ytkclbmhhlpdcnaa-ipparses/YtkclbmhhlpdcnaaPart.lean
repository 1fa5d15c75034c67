/- The contract of Part. -/
import Derived.Test.YtkclbmhhlpdcnaaMeasured
import Derived.Test.YtkclbmhhlpdcnaaCopy
namespace Go.Proofs.Ytkclbmhhlpdcnaa
open Go.RowKit

set_option maxHeartbeats 1000000 in
theorem part_any (b off len cap : Nat) (l : List Int) (x y : Int) (p q : Nat) (w : World) (hA : At w b off len cap l) (hx : x = (p : Int)) (hy : y = (q : Int)) (hpq : p ≤ q) (hn : q ≤ len) (hl : len ≤ 5000) :
    Calls Try.prog 17 #[.slice (some ⟨b, off, none⟩) len cap, .int .i64 x, .int .i64 y] w fun e w' => ∃ v, e = .returned v ∧ Owns w' w.heap.size v ((l.drop p).take (q - p)) ∧ Below w.heap.size w w' := by
  subst hx hy
  obtain ⟨i0, hi, hz0, hz1, hz2⟩ := info_parts info5
  have HL : Hid (l.length = len) := hA.len
  have hs := hA.sees
  clear hA
  go_enter Try.func17, Try.ntmps17
  go_wp2
  go_loopw [7, 8] (fun v i wr => ∃ t : Nat, p ≤ t ∧ t ≤ q ∧ i = .int .i64 (t : Int) ∧ Owns wr w.heap.size v ((l.drop p).take (t - p)) ∧ Below w.heap.size w wr) (fun _ i _ => q - (intOf i).toNat)
  case atStart => exact ⟨p, Nat.le_refl _, hpq, rfl, by rw [Nat.sub_self]; exact World.ownsRow_nil _ _ _ _, Below.refl _ _⟩
  case round =>
    obtain ⟨t, ht1, ht2, rfl, hown, hbel⟩ := hrel
    by_cases hlt : t < q
    · have hcell : wr.cell? ⟨b, off + t, none⟩ = some (.int .u8 (l.getD t 0)) := cell_later hbel (hs t (by rw [HL.out]; omega))
      have htl : Hid (((l.drop p).take (t - p)).length = t - p) := by show _ = _; rw [List.length_take, List.length_drop, HL.out]; omega
      have hts : Hid ((l.drop p).take (t + 1 - p) = (l.drop p).take (t - p) ++ [l.getD t 0]) := by
        show _ = _
        have := take_next l p (t - p) (by rw [HL.out]; omega)
        rwa [show t - p + 1 = t + 1 - p by omega, show p + (t - p) = t by omega] at this
      have hsz := hbel.size
      have htb : (t : Int) < (len : Int) := by omega
      generalize hC : l.getD t 0 = c at *
      clear hC
      have hown2 : (wr.alloc (.cells #[.int .u8 c] 5)).ownsRow w.heap.size 5 1 _ ((l.drop p).take (t - p)).length (((l.drop p).take (t - p)).map (Value.int .u8)) := World.ownsRow.alloc hown _
      go_wp2_with (at_builtin; refine wpList_append_own _ rfl _ _ 22 rfl w.heap.size 5 i0 (.int .u8 0) 1 1 Try.underlying22 hi hz0 hz1 hz2 rfl (by decide) _ _ _ rfl hown2 ⟨wr.heap.size, 0, none⟩ 1 1 [.int .u8 c] rfl rfl ?c1 ?c2 ?c3 ?c4 ?c5 ?_)
      case c1 =>
        intro j u hj
        match j, hj with
        | 0, hj => simp at hj; subst hj; simp [Addr.add]
      case c2 => intro u hu; simp at hu; subst hu; rfl
      case c3 => rw [htl.out]; unfold maxLen; omega
      case c4 => rw [htl.out]; omega
      case c5 => simp; omega
      intro v' w1 hown' hgrow _
      have R1 : Owns w1 w.heap.size v' ((l.drop p).take (t + 1 - p)) := by
        unfold Owns; rw [hts.out]; simpa using hown'
      have R2 : Below w.heap.size w w1 := by
        refine (hbel.alloc hsz _).grown hgrow (by simp; omega) ?_
        intro j hj
        exact (hown.lt j hj).1
      clear hown' hgrow hown2
      go_wp2
      go_roundw
      case rel => exact ⟨t + 1, by omega, by omega, by go_num, R1, R2⟩
      case measure => simp [intOf]; omega
    · have hke : t = q := by omega
      subst hke
      go_wp2
      go_ret
      exact ⟨_, rfl, hown, hbel⟩
end Go.Proofs.Ytkclbmhhlpdcnaa
