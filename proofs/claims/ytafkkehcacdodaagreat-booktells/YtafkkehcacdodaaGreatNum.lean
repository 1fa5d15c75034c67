/- Plain mathematics: bytes and numbers of two and of four of them; numbers in their kinds. No program in sight. -/
import Derived.Test.YtafkkehcacdodaaGreatLay
set_option maxRecDepth 100000
namespace Go.Proofs.YtafkkehcacdodaaGreat
open Go.RowKit

def b1 (l : List Int) (k : Nat) : Int := l.getD k 0
def w2 (l : List Int) (k : Nat) : Int := l.getD k 0 * 256 + l.getD (k + 1) 0
def w4 (l : List Int) (k : Nat) : Int := ((l.getD k 0 * 256 + l.getD (k + 1) 0) * 256 + l.getD (k + 2) 0) * 256 + l.getD (k + 3) 0

def inB (x m : Int) : Prop := 0 ≤ x ∧ x ≤ m

instance (x m : Int) : Decidable (inB x m) := by unfold inB; infer_instance

def inBb (x m : Int) : Bool := decide (inB x m)

theorem getV1 (l : List Int) (k : Nat) (h : k + 1 ≤ l.length) : getV l k 1 = b1 l k := by
  unfold getV b1
  have : holdsB l.length k 1 = true := by unfold holdsB; simp; omega
  rw [if_pos this, Int.toNat_natCast]
  show num ((l.drop k).take 1) = _
  rw [take_next l k 0 (by omega), num_snoc]
  simp [num]

theorem getV2 (l : List Int) (k : Nat) (h : k + 2 ≤ l.length) : getV l k 2 = w2 l k := by
  unfold getV w2
  have : holdsB l.length k 2 = true := by unfold holdsB; simp; omega
  rw [if_pos this, Int.toNat_natCast]
  show num ((l.drop k).take 2) = _
  rw [take_next l k 1 (by omega), num_snoc, take_next l k 0 (by omega), num_snoc]
  simp [num]

theorem getV4 (l : List Int) (k : Nat) (h : k + 4 ≤ l.length) : getV l k 4 = w4 l k := by
  unfold getV w4
  have : holdsB l.length k 4 = true := by unfold holdsB; simp; omega
  rw [if_pos this, Int.toNat_natCast]
  show num ((l.drop k).take 4) = _
  rw [take_next l k 3 (by omega), num_snoc, take_next l k 2 (by omega), num_snoc, take_next l k 1 (by omega), num_snoc, take_next l k 0 (by omega), num_snoc]
  simp [num]

theorem b1_bd (l : List Int) (hb : isBytes l) (k : Nat) : 0 ≤ b1 l k ∧ b1 l k < 256 := getD_byte l hb k

theorem w2_bd (l : List Int) (hb : isBytes l) (k : Nat) : 0 ≤ w2 l k ∧ w2 l k < 65536 := by
  have h1 := getD_byte l hb k
  have h2 := getD_byte l hb (k + 1)
  unfold w2
  omega

theorem w4_bd (l : List Int) (hb : isBytes l) (k : Nat) : 0 ≤ w4 l k ∧ w4 l k < 4294967296 := by
  have h1 := getD_byte l hb k
  have h2 := getD_byte l hb (k + 1)
  have h3 := getD_byte l hb (k + 2)
  have h4 := getD_byte l hb (k + 3)
  unfold w4
  omega

theorem i64_id (x : Int) (h0 : 0 ≤ x) (h1 : x < 2 ^ 63) : IntKind.i64.wrap x = x := by rw [IntKind.wrap_i64]; omega
theorem u8_id (x : Int) (h0 : 0 ≤ x) (h1 : x < 2 ^ 8) : IntKind.u8.wrap x = x := by rw [IntKind.wrap_u8]; omega
theorem u32_id (x : Int) (h0 : 0 ≤ x) (h1 : x < 2 ^ 32) : IntKind.u32.wrap x = x := by rw [IntKind.wrap_u32]; omega

theorem or_i64 (i : Nat) (x y : Int) (h0 : 0 ≤ x) (hx : x % 2 ^ i = 0) (h1 : x < 2 ^ 63) (h2 : 0 ≤ y) (h3 : y < 2 ^ i) (h4 : y < 2 ^ 63) : bits .or .i64 x y = x + y :=
  bits_join .i64 63 (by decide) i64_id i x y h0 hx h1 h2 h3 h4

theorem or_u32 (i : Nat) (x y : Int) (h0 : 0 ≤ x) (hx : x % 2 ^ i = 0) (h1 : x < 2 ^ 32) (h2 : 0 ≤ y) (h3 : y < 2 ^ i) (h4 : y < 2 ^ 32) : bits .or .u32 x y = x + y :=
  bits_join .u32 32 (by decide) u32_id i x y h0 hx h1 h2 h3 h4

theorem mask_i64 (i : Nat) (hi : i ≤ 63) (x : Int) (h0 : 0 ≤ x) (h1 : x < 2 ^ 63) : bits .and .i64 x (2 ^ i - 1) = x % 2 ^ i := bits_mask .i64 63 (by decide) i64_id i hi x h0 h1
theorem mask_u8 (i : Nat) (hi : i ≤ 8) (x : Int) (h0 : 0 ≤ x) (h1 : x < 2 ^ 8) : bits .and .u8 x (2 ^ i - 1) = x % 2 ^ i := bits_mask .u8 8 (by decide) u8_id i hi x h0 h1

theorem ws_append_even (l m : List Int) (h : l.length % 2 = 0) : ws (l ++ m) = ws l + ws m := by
  have shift : ∀ (n : List Int) (j k : Nat), j % 2 = k % 2 → wsAux j n = wsAux k n := by
    intro n
    induction n with
    | nil => intros; rfl
    | cons c n ih => intro j k hjk; simp only [wsAux]; rw [ih (j + 1) (k + 1) (by omega), hjk]
  unfold ws
  rw [wsAux_append, shift m (0 + l.length) 0 (by omega)]

/-- The lowest n bytes of a number, the highest first. -/
def bytesOfN : Nat → Int → List Int
  | 0, _ => []
  | 1, x => [x % 256]
  | 2, x => [x / 256 % 256, x % 256]
  | 3, x => [x / 65536 % 256, x / 256 % 256, x % 256]
  | _, x => [x / 16777216 % 256, x / 65536 % 256, x / 256 % 256, x % 256]

theorem getD_append_left (l m : List Int) (k : Nat) (h : k < l.length) : (l ++ m).getD k 0 = l.getD k 0 := by
  simp [List.getD, List.getElem?_append_left h]

theorem fold65535 (x : Int) (h : 0 < x) : fold16 x = 65535 ↔ x % 65535 = 0 := by
  unfold fold16
  rw [if_neg (by omega)]
  omega
end Go.Proofs.YtafkkehcacdodaaGreat
