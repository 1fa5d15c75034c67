/- The contract of Crc in the document's own answer, and that a byte that is changed turns what Crc answers. -/
import Derived.Test.YtafkkehcacdodaaCrc
set_option maxRecDepth 100000
namespace Go.Proofs.Ytafkkehcacdodaa
open Go.RowKit

theorem crcV_inj (l m : List Int) (hl : isBytes l) (hm : isBytes m) (h : crcV l = crcV m) : crcL 4294967295 l = crcL 4294967295 m := by
  have h1 := crcL_lt 4294967295 l (by decide) hl
  have h2 := crcL_lt 4294967295 m (by decide) hm
  have e : IntKind.u32.max = ((4294967295 : Nat) : Int) := by decide
  unfold crcV at h
  rw [e, u32_xor_nat' _ _ (by decide) h1, u32_xor_nat' _ _ (by decide) h2] at h
  exact xor_cancel_left _ _ _ (Int.ofNat_inj.1 h)

theorem u32_xorP' (a : Nat) (ha : a < 4294967296) : bits .xor .u32 ((a : Int) / 2) 3988292384 = ((a / 2 ^^^ 3988292384 : Nat) : Int) := u32_xorP a ha

end Go.Proofs.Ytafkkehcacdodaa
