/- The contract of Quote in the document's own answer: all ways. -/
import Derived.Test.YtdejjokgchbgnaaFrameRquote3
import Derived.Test.YtdejjokgchbgnaaFrameRquote4
import Derived.Test.YtdejjokgchbgnaaFrameRquote5
import Derived.Test.YtdejjokgchbgnaaFrameRquote6
import Derived.Test.YtdejjokgchbgnaaFrameRquote7
set_option maxRecDepth 100000
namespace Go.Proofs.Ytdejjokgchbgnaa
open Go.RowKit

theorem rquote_no (a : Option Addr) (b off len cap : Nat) (l : List Int) (w : World) (ha : a = some ⟨b, off, none⟩ ∨ l = []) (hA : At w b off len cap l) (hl : len ≤ 140737488351232) (h : quoteO l = none) :
    Calls Try.prog 16 #[.slice a len cap] w fun e w' => e = .returned (.tuple #[inV Inn.zero, .bool false]) ∧ Below w.heap.size w w' := by
  have hL := hA.len
  by_cases h20 : len < 20
  · exact rquote_short a len cap w h20
  rcases ha with rfl | rfl
  case inr => simp at hL; omega
  by_cases g : Head l
  · obtain ⟨k, hk⟩ := head_nat l g
    unfold quoteO at h
    by_cases ho : w2 l 6 % 8192 = 0
    · rw [if_pos ⟨g, ho⟩, hk, Int.toNat_natCast, Option.map_eq_none_iff] at h
      unfold portsOf at h
      by_cases h17 : b1 l 9 = 17
      · rw [if_pos (.inl h17)] at h; cases h
      by_cases h6 : b1 l 9 = 6
      · rw [if_pos (.inr h6)] at h; cases h
      rw [if_neg (by omega)] at h
      by_cases h1 : b1 l 9 = 1
      · have hE : ¬ echoB (l.drop k) = true := fun q => by rw [if_pos ⟨h1, q⟩] at h; cases h
        unfold echoB at hE
        rw [drop_b1, drop_b1, Nat.add_zero] at hE
        simp only [decide_eq_true_eq] at hE
        by_cases e8 : b1 l k = 8
        · exact rquote_code8 b off len cap l w hA hl g ho k hk h1 ⟨e8, fun q => hE ⟨.inl e8, q⟩⟩
        by_cases e0 : b1 l k = 0
        · exact rquote_code0 b off len cap l w hA hl g ho k hk h1 ⟨e0, fun q => hE ⟨.inr e0, q⟩⟩
        exact rquote_type b off len cap l w hA hl g ho k hk h1 ⟨e8, e0, rfl⟩
      · exact rquote_other b off len cap l w hA hl g ho h17 h6 h1
    · exact rquote_off b off len cap l w hA g ho
  · by_cases hv : b1 l 0 / 16 = 4
    · by_cases hd : hdOf l < 20
      · exact rquote_few b off len cap l w hA (by omega) hv hd
      · refine rquote_len b off len cap l w hA (by omega) hv (by omega) ?_
        rcases Int.lt_or_le (len : Int) (hdOf l + 8) with q | q
        · exact q
        · exact absurd ⟨by omega, hv, by omega, by rw [hL]; exact q⟩ g
    · exact rquote_ver b off len cap l w hA (by omega) hv

theorem rquote_ok (b off len cap : Nat) (l : List Int) (x : Inn) (w : World) (hA : At w b off len cap l) (hl : len ≤ 140737488351232) (h : quoteO l = some x) :
    Calls Try.prog 16 #[.slice (some ⟨b, off, none⟩) len cap] w fun e w' => e = .returned (.tuple #[inV x, .bool true]) ∧ Below w.heap.size w w' := by
  unfold quoteO at h
  by_cases g : Head l ∧ w2 l 6 % 8192 = 0
  · rw [if_pos g] at h
    obtain ⟨g, ho⟩ := g
    obtain ⟨k, hk⟩ := head_nat l g
    rw [hk, Int.toNat_natCast] at h
    obtain ⟨⟨f, t⟩, hp, rfl⟩ := Option.map_eq_some_iff.1 h
    unfold portsOf at hp
    by_cases h17 : b1 l 9 = 17
    · rw [if_pos (.inl h17)] at hp
      obtain ⟨rfl, rfl⟩ := Prod.mk.inj (Option.some.inj hp)
      rw [drop_w2, drop_w2, Nat.add_zero]
      exact rquote_17 b off len cap l w hA hl g ho k hk h17
    by_cases h6 : b1 l 9 = 6
    · rw [if_pos (.inr h6)] at hp
      obtain ⟨rfl, rfl⟩ := Prod.mk.inj (Option.some.inj hp)
      rw [drop_w2, drop_w2, Nat.add_zero]
      exact rquote_6 b off len cap l w hA hl g ho k hk h6
    rw [if_neg (by omega)] at hp
    by_cases h1 : b1 l 9 = 1 ∧ echoB (l.drop k) = true
    · rw [if_pos h1] at hp
      obtain ⟨rfl, rfl⟩ := Prod.mk.inj (Option.some.inj hp)
      obtain ⟨h1, hE⟩ := h1
      unfold echoB at hE
      rw [drop_b1, drop_b1, Nat.add_zero] at hE
      simp only [decide_eq_true_eq] at hE
      rw [drop_w2]
      rcases hE with ⟨e8 | e0, ec⟩
      · exact rquote_ask b off len cap l w hA hl g ho k hk h1 ⟨e8, ec⟩
      · exact rquote_answer b off len cap l w hA hl g ho k hk h1 ⟨e0, ec⟩
    · rw [if_neg h1] at hp; cases hp
  · rw [if_neg g] at h; cases h
end Go.Proofs.Ytdejjokgchbgnaa
