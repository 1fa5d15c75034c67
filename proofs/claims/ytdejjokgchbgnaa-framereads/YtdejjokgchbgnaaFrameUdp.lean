/- The contract of Read: datagrams of UDP, and protocols that are none of the three. -/
import Derived.Test.YtdejjokgchbgnaaFrameRead
set_option maxRecDepth 100000
namespace Go.Proofs.Ytdejjokgchbgnaa
open Go.RowKit

theorem Bts.at_ne {W : World} {a : Option Addr} {n k : Nat} {l : List Int} (h : Bts W (.slice a n k) l) : n = l.length ∧ ∃ b off, (a = some ⟨b, off, none⟩ ∨ l = []) ∧ At W b off n k l := by
  obtain ⟨a', c', b, off, e, h2, h3, h4, h5, h6⟩ := h
  simp only [Value.slice.injEq] at e
  obtain ⟨rfl, rfl, rfl⟩ := e
  exact ⟨rfl, b, off, h5, ⟨h2, h3, rfl, h4, h6⟩⟩

theorem dg_ok (l : List Int) (hb : isBytes l) : (dgOf l).Ok :=
  ⟨(w4_bd l hb 12).1, (w4_bd l hb 12).2, (w4_bd l hb 16).1, (w4_bd l hb 16).2, isBytes_part l hb _ _, isBytes_part l hb _ _⟩

theorem body_len (l : List Int) (g : Good l) : (dgOf l).body.length ≤ 70000 := by
  have := g.a
  show ((l.drop _).take _).length ≤ _
  rw [List.length_take, List.length_drop]
  omega

theorem read_udp_ok (b off len cap : Nat) (l : List Int) (w : World) (hA : At w b off len cap l) (g : Good l) (hp : partB (dgOf l) = false) (h17 : (dgOf l).proto = 17) (hu : parseU (dgOf l).src (dgOf l).dst (dgOf l).body = 0) :
    Calls Try.prog 12 #[.slice (some ⟨b, off, none⟩) len cap] w fun e w' =>
      ∃ a1 k1 a2 k2, e = .returned (.tuple #[.agg (frC (dgOf l) (.slice a1 (dgOf l).opts.length k1) (.slice a2 (dgOf l).body.length k2) (rsOf (dgOf l))), .int .i64 0]) ∧ Bts w' (.slice a1 (dgOf l).opts.length k1) (dgOf l).opts ∧ Bts w' (.slice a2 (dgOf l).body.length k2) (dgOf l).body ∧ Below w.heap.size w w' := by
  have hr : rsOf (dgOf l) = ⟨0, 1, w2 (dgOf l).body 0, w2 (dgOf l).body 2, 0, Inn.zero⟩ := by unfold rsOf rsU; rw [if_pos h17, if_pos hu]
  have hk := dg_ok l hA.bytes
  have hl := body_len l g
  refine read_17 b off len cap l w hA g hp (by unfold wayF; rw [if_pos h17]) (fun a1 k1 a2 k2 => frC (dgOf l) (.slice a1 (dgOf l).opts.length k1) (.slice a2 (dgOf l).body.length k2) (rsOf (dgOf l))) 0 (fun _ _ _ _ => rfl) (fun _ _ _ _ => oneFr _ _ _ _ _ _ _ _) ?_
  intro a1 k1 a2 k2 W hO hB
  obtain ⟨-, b', off', ha, hA'⟩ := hB.at_ne
  have g' := ugood_of _ _ _ hu
  rcases ha with rfl | ha
  · rw [hr]
    exact datagram_ok (dgOf l) a1 _ k1 b' off' _ k2 W hk hA' hl g'
  · have := g'.a; rw [ha] at this; simp at this

theorem read_udp_no (b off len cap : Nat) (l : List Int) (w : World) (hA : At w b off len cap l) (g : Good l) (hp : partB (dgOf l) = false) (h17 : (dgOf l).proto = 17) (hu : ¬ parseU (dgOf l).src (dgOf l).dst (dgOf l).body = 0) :
    Calls Try.prog 12 #[.slice (some ⟨b, off, none⟩) len cap] w fun e w' => e = .returned (.tuple #[.agg zeroFC, .int .i64 (rsOf (dgOf l)).why]) ∧ Below w.heap.size w w' := by
  have hr : (rsOf (dgOf l)).why = whyI (parseU (dgOf l).src (dgOf l).dst (dgOf l).body) := by unfold rsOf rsU; rw [if_pos h17, if_neg hu]; rfl
  have hk := dg_ok l hA.bytes
  have hl := body_len l g
  refine (read_17 b off len cap l w hA g hp (by unfold wayF; rw [if_pos h17]) (fun _ _ _ _ => zeroFC) (rsOf (dgOf l)).why (fun _ _ _ _ => rfl) (fun _ _ _ _ => oneZ) ?_).mono ?_
  · intro a1 k1 a2 k2 W hO hB
    obtain ⟨-, b', off', ha, hA'⟩ := hB.at_ne
    rw [hr]
    exact datagram_no (dgOf l) a1 a2 _ k1 b' off' _ k2 W hk ha hA' hl hu
  · rintro e w' ⟨_, _, _, _, rfl, -, -, hb⟩
    exact ⟨rfl, hb⟩

theorem read_oth (b off len cap : Nat) (l : List Int) (w : World) (hA : At w b off len cap l) (g : Good l) (hp : partB (dgOf l) = false) (h17 : ¬ (dgOf l).proto = 17) (h6 : ¬ (dgOf l).proto = 6) (h1 : ¬ (dgOf l).proto = 1) :
    Calls Try.prog 12 #[.slice (some ⟨b, off, none⟩) len cap] w fun e w' => e = .returned (.tuple #[.agg zeroFC, .int .i64 4]) ∧ Below w.heap.size w w' := by
  refine (read_other b off len cap l w hA g hp (by unfold wayF; rw [if_neg h17, if_neg h6, if_neg h1]) (fun _ _ _ _ => zeroFC) 4 (fun _ _ _ _ => rfl) (fun _ _ _ _ => oneZ) ?_).mono ?_
  · intro a1 k1 a2 k2 W hO hB
    exact other_any (dgOf l) a1 a2 _ k1 _ k2 W
  · rintro e w' ⟨_, _, _, _, rfl, -, -, hb⟩
    exact ⟨rfl, hb⟩
end Go.Proofs.Ytdejjokgchbgnaa
