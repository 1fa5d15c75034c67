/- Plain mathematics: the bytes of a segment of TCP. No program in sight. -/
import Derived.Test.YtdejjokgchbgnaaUdpMath
set_option maxRecDepth 100000
namespace Go.Proofs.Ytdejjokgchbgnaa
open Go.RowKit

structure Pc where
  src : Int
  dst : Int
  seq : Int
  ack : Int
  flags : Int
  window : Int
  urgent : Int
  opts : List Int
  data : List Int

def Pc.zero : Pc := ⟨0, 0, 0, 0, 0, 0, 0, [], []⟩

def Pc.size (p : Pc) : Int := 20 + p.opts.length + p.data.length

def Pc.lead (p : Pc) : Int := (20 + (p.opts.length : Int)) / 4 * 4096 + p.flags

/-- What the kinds of the numbers say. -/
structure Pc.Ok (p : Pc) : Prop where
  seq0 : 0 ≤ p.seq
  seq1 : p.seq < 4294967296
  ack0 : 0 ≤ p.ack
  ack1 : p.ack < 4294967296
  fl0 : -9223372036854775808 ≤ p.flags
  fl1 : p.flags < 9223372036854775808
  opts : isBytes p.opts
  data : isBytes p.data

/-- The first twenty bytes, with c for the check. -/
def fixT (p : Pc) (c : Int) : List Int :=
  [p.src / 256 % 256, p.src % 256, p.dst / 256 % 256, p.dst % 256, p.seq / 16777216 % 256, p.seq / 65536 % 256, p.seq / 256 % 256, p.seq % 256, p.ack / 16777216 % 256, p.ack / 65536 % 256, p.ack / 256 % 256, p.ack % 256,
    p.lead / 256 % 256, p.lead % 256, p.window / 256 % 256, p.window % 256, c / 256 % 256, c % 256, p.urgent / 256 % 256, p.urgent % 256]

def headT (p : Pc) (c : Int) : List Int := fixT p c ++ p.opts

theorem fixT_length (p : Pc) (c : Int) : (fixT p c).length = 20 := rfl

theorem headT_length (p : Pc) (c : Int) : (headT p c).length = 20 + p.opts.length := by unfold headT; rw [List.length_append, fixT_length]

theorem fixT_bytes (p : Pc) (c : Int) : isBytes (fixT p c) := by
  intro z hz
  simp only [fixT, List.mem_cons, List.not_mem_nil, or_false] at hz
  rcases hz with rfl | rfl | rfl | rfl | rfl | rfl | rfl | rfl | rfl | rfl | rfl | rfl | rfl | rfl | rfl | rfl | rfl | rfl | rfl | rfl <;> omega

theorem headT_bytes (p : Pc) (c : Int) (h : isBytes p.opts) : isBytes (headT p c) := isBytes_append (fixT_bytes p c) h

/-- What pseudo header, header and data add, with 0 for the check. -/
def allT (s d : Int) (p : Pc) : Int := ws (pseudoB s d 6 p.size ++ (headT p 0 ++ p.data))

def checkT (s d : Int) (p : Pc) : Int := turn16 (fold16 (allT s d p))

def builtT (s d : Int) (p : Pc) : List Int := headT p (checkT s d p) ++ p.data

structure TArg (p : Pc) : Prop where
  src : inB p.src 65535
  dst : inB p.dst 65535
  window : inB p.window 65535
  urgent : inB p.urgent 65535
  flags : inB p.flags 255
  o40 : p.opts.length ≤ 40
  o4 : p.opts.length % 4 = 0

instance (p : Pc) : Decidable (TArg p) :=
  decidable_of_iff (inB p.src 65535 ∧ inB p.dst 65535 ∧ inB p.window 65535 ∧ inB p.urgent 65535 ∧ inB p.flags 255 ∧ p.opts.length ≤ 40 ∧ p.opts.length % 4 = 0)
    ⟨fun ⟨a, b, c, d, e, f, g⟩ => ⟨a, b, c, d, e, f, g⟩, fun ⟨a, b, c, d, e, f, g⟩ => ⟨a, b, c, d, e, f, g⟩⟩

structure TFits (p : Pc) : Prop where
  arg : TArg p
  all : 20 + p.opts.length + p.data.length ≤ 2028

def buildT (p : Pc) : Int := if ¬ TArg p then 1 else if 2028 < 20 + p.opts.length + p.data.length then 3 else 0

theorem tfits_of (p : Pc) (h : buildT p = 0) : TFits p := by
  unfold buildT at h
  split at h; · omega
  split at h; · omega
  constructor
  · apply Decidable.of_not_not; assumption
  · omega

theorem build_tfits (p : Pc) (f : TFits p) : buildT p = 0 := by
  have := f.all
  unfold buildT
  rw [if_neg (fun h => h f.arg), if_neg (by omega)]

theorem checkT_bd (s d : Int) (p : Pc) : 0 ≤ checkT s d p ∧ checkT s d p ≤ 65535 := by
  unfold checkT; rw [turn_fold]; have := fold16_bd (allT s d p); omega

theorem builtT_length (s d : Int) (p : Pc) : (builtT s d p).length = 20 + p.opts.length + p.data.length := by
  unfold builtT; rw [List.length_append, headT_length]

theorem builtT_bytes (s d : Int) (p : Pc) (k : p.Ok) : isBytes (builtT s d p) := isBytes_append (headT_bytes _ _ k.opts) k.data

theorem ws_fixT (p : Pc) (c : Int) (h0 : 0 ≤ c) (h1 : c ≤ 65535) : ws (fixT p c) = ws (fixT p 0) + c := by
  simp only [fixT, ws, wsAux]
  simp
  omega

theorem ws_headT_append (p : Pc) (c : Int) (m : List Int) : ws (headT p c ++ m) = ws (fixT p c) + ws (p.opts ++ m) := by
  unfold headT
  rw [List.append_assoc]
  exact ws_append_even _ _ (by rw [fixT_length])

theorem allT_eq (s d : Int) (p : Pc) : allT s d p = ws (pseudoB s d 6 p.size) + (ws (fixT p 0) + ws (p.opts ++ p.data)) := by
  unfold allT; rw [ws_pseudo_append, ws_headT_append]

theorem ws_pseudo_pos6 (s d n : Int) : 0 < ws (pseudoB s d 6 n) := by
  have hb := pseudo_bytes s d 6 n
  simp only [pseudoB, ws, wsAux]
  simp
  omega

/-- The sum over what was built. -/
theorem ws_builtT (s d : Int) (p : Pc) : ws (pseudoB s d 6 p.size ++ builtT s d p) = allT s d p + checkT s d p := by
  have hf := checkT_bd s d p
  rw [allT_eq]
  unfold builtT
  rw [ws_pseudo_append, ws_headT_append, ws_fixT p _ hf.1 hf.2]
  omega

theorem allT_pos (s d : Int) (p : Pc) (k : p.Ok) : 0 < allT s d p := by
  have hp := ws_pseudo_pos6 s d p.size
  have hh := ws_bd _ (fixT_bytes p 0)
  have hd := ws_bd _ (isBytes_append k.opts k.data)
  rw [allT_eq]
  omega

/-- What the bytes say of a header's length. -/
def hdT (l : List Int) : Int := b1 l 12 / 16 * 4

def parseT (s d : Int) (l : List Int) : Int :=
  if l.length < 20 then 2
  else if hdT l < 20 ∨ b1 l 12 % 16 ≠ 0 then 4
  else if (l.length : Int) < hdT l then 2
  else if fold16 (ws (pseudoB s d 6 l.length ++ l)) ≠ 65535 then 5
  else 0

structure TGood (s d : Int) (l : List Int) : Prop where
  a : 20 ≤ l.length
  b : 20 ≤ hdT l
  z : b1 l 12 % 16 = 0
  c : hdT l ≤ l.length
  e : fold16 (ws (pseudoB s d 6 l.length ++ l)) = 65535

theorem tgood_of (s d : Int) (l : List Int) (h : parseT s d l = 0) : TGood s d l := by
  unfold parseT at h
  split at h; · omega
  split at h; · omega
  split at h; · omega
  split at h; · omega
  rename_i q1 q2 q3 q4
  refine ⟨by omega, by omega, by omega, by omega, ?_⟩
  by_cases h1 : fold16 (ws (pseudoB s d 6 l.length ++ l)) = 65535
  · exact h1
  · exact absurd h1 q4

theorem parse_tgood (s d : Int) (l : List Int) (g : TGood s d l) : parseT s d l = 0 := by
  obtain ⟨a, b, z, c, e⟩ := g
  unfold parseT
  rw [if_neg (by omega), if_neg (by omega), if_neg (by omega), if_neg (by omega)]

def pcOf (l : List Int) : Pc :=
  { src := w2 l 0, dst := w2 l 2, seq := w4 l 4, ack := w4 l 8, flags := b1 l 13, window := w2 l 14, urgent := w2 l 18,
    opts := (l.drop 20).take ((hdT l).toNat - 20), data := (l.drop (hdT l).toNat).take (l.length - (hdT l).toNat) }

theorem b12_built (s d : Int) (p : Pc) (f : TArg p) : b1 (builtT s d p) 12 = (20 + (p.opts.length : Int)) / 4 * 16 := by
  have f1 := f.flags
  have f2 := f.o40
  unfold inB at f1
  show p.lead / 256 % 256 = _
  unfold Pc.lead
  omega

theorem hd_built (s d : Int) (p : Pc) (f : TArg p) : hdT (builtT s d p) = 20 + p.opts.length := by
  have f2 := f.o4
  unfold hdT
  rw [b12_built s d p f]
  omega

theorem size_built (s d : Int) (p : Pc) : ((builtT s d p).length : Int) = p.size := by rw [builtT_length]; unfold Pc.size; omega

theorem checkT_right (s d : Int) (p : Pc) (k : p.Ok) : fold16 (ws (pseudoB s d 6 p.size ++ builtT s d p)) = 65535 := by
  have hX := allT_pos s d p k
  have hc := checkT_bd s d p
  rw [ws_builtT, fold65535 _ (by omega)]
  unfold checkT
  rw [turn_fold]
  generalize allT s d p = X at *
  have hfo : fold16 X = (X - 1) % 65535 + 1 := by unfold fold16; rw [if_neg (by omega)]
  rw [hfo]
  omega

theorem tgood_built (s d : Int) (p : Pc) (k : p.Ok) (f : TArg p) : TGood s d (builtT s d p) := by
  have e1 := hd_built s d p f
  have e2 := b12_built s d p f
  have e3 := builtT_length s d p
  refine ⟨by omega, by omega, by omega, by omega, ?_⟩
  rw [size_built]
  exact checkT_right s d p k

/-- What was built is read back. -/
theorem pc_built (s d : Int) (p : Pc) (k : p.Ok) (f : TArg p) : pcOf (builtT s d p) = p := by
  have eh := hd_built s d p f
  have el := builtT_length s d p
  obtain ⟨k1, k2, k3, k4, -, -, -, -⟩ := k
  obtain ⟨f1, f2, f3, f4, f5, f6, f7⟩ := f
  unfold inB at f1 f2 f3 f4 f5
  have e0 : w2 (builtT s d p) 0 = p.src := by show p.src / 256 % 256 * 256 + p.src % 256 = _; omega
  have e2 : w2 (builtT s d p) 2 = p.dst := by show p.dst / 256 % 256 * 256 + p.dst % 256 = _; omega
  have e4 : w4 (builtT s d p) 4 = p.seq := by show ((p.seq / 16777216 % 256 * 256 + p.seq / 65536 % 256) * 256 + p.seq / 256 % 256) * 256 + p.seq % 256 = _; omega
  have e8 : w4 (builtT s d p) 8 = p.ack := by show ((p.ack / 16777216 % 256 * 256 + p.ack / 65536 % 256) * 256 + p.ack / 256 % 256) * 256 + p.ack % 256 = _; omega
  have e13 : b1 (builtT s d p) 13 = p.flags := by show p.lead % 256 = _; unfold Pc.lead; omega
  have e14 : w2 (builtT s d p) 14 = p.window := by show p.window / 256 % 256 * 256 + p.window % 256 = _; omega
  have e18 : w2 (builtT s d p) 18 = p.urgent := by show p.urgent / 256 % 256 * 256 + p.urgent % 256 = _; omega
  have hn : (hdT (builtT s d p)).toNat = 20 + p.opts.length := by rw [eh]; omega
  have eo : ((builtT s d p).drop 20).take ((hdT (builtT s d p)).toNat - 20) = p.opts := by
    have : (builtT s d p).drop 20 = p.opts ++ p.data := by simp [builtT, headT, fixT]
    rw [this, hn, show 20 + p.opts.length - 20 = p.opts.length by omega, List.take_left]
  have ed : ((builtT s d p).drop (hdT (builtT s d p)).toNat).take ((builtT s d p).length - (hdT (builtT s d p)).toNat) = p.data := by
    rw [hn, el, show 20 + p.opts.length + p.data.length - (20 + p.opts.length) = p.data.length by omega]
    unfold builtT
    rw [show 20 + p.opts.length = (headT p (checkT s d p)).length from (headT_length _ _).symm, List.drop_left, List.take_length]
  unfold pcOf
  rw [e0, e2, e4, e8, e13, e14, e18, eo, ed]

theorem pc_ok (l : List Int) (hb : isBytes l) : (pcOf l).Ok := by
  have a := w4_bd l hb 4
  have b := w4_bd l hb 8
  have c : 0 ≤ b1 l 13 ∧ b1 l 13 < 256 := b1_bd l hb 13
  exact ⟨a.1, a.2, b.1, b.2, by show _ ≤ b1 l 13; omega, by show b1 l 13 < _; omega, isBytes_part l hb _ _, isBytes_part l hb _ _⟩

theorem and_shifted (a k : Nat) : a &&& ((2 ^ k - 1) <<< 8) = a / 256 % 2 ^ k * 256 := by
  have e : a / 256 % 2 ^ k * 256 = ((a >>> 8) % 2 ^ k) <<< 8 := by rw [Nat.shiftLeft_eq, Nat.shiftRight_eq_div_pow]
  rw [e]
  apply Nat.eq_of_testBit_eq
  intro j
  rw [Nat.testBit_and, Nat.testBit_shiftLeft, Nat.testBit_shiftLeft, Nat.testBit_two_pow_sub_one, Nat.testBit_mod_two_pow, Nat.testBit_shiftRight]
  by_cases h : 8 ≤ j
  · have : 8 + (j - 8) = j := by omega
    rw [this]
    simp [h, Bool.and_comm]
  · simp [h]

/-- The four bits behind the header's words. -/
theorem spare_bits (x : Int) (h0 : 0 ≤ x) (h1 : x < 65536) : (bits .and .i64 x 3840 != 0) = decide (x / 256 % 16 ≠ 0) := by
  obtain ⟨a, rfl⟩ := Int.eq_ofNat_of_zero_le h0
  have ha : a < 65536 := by omega
  have e1 : (BitVec.ofInt 64 (a : Int)).toNat = a := by
    rw [BitVec.ofInt_natCast, BitVec.toNat_ofNat]; exact Nat.mod_eq_of_lt (by omega)
  have e2 : (BitVec.ofInt 64 (3840 : Int)).toNat = (2 ^ 4 - 1) <<< 8 := by decide
  have e : bits .and .i64 (a : Int) 3840 = ((a / 256 % 16 * 256 : Nat) : Int) := by
    show IntKind.i64.wrap ((BitVec.ofInt 64 (a : Int) &&& BitVec.ofInt 64 (3840 : Int)).toNat : Int) = _
    rw [BitVec.toNat_and, e1, e2, and_shifted]
    exact i64_id _ (by omega) (by omega)
  rw [e]
  by_cases h : (a : Int) / 256 % 16 = 0
  · have : ((a / 256 % 16 * 256 : Nat) : Int) = 0 := by omega
    rw [this]; simp [h]
  · have : ((a / 256 % 16 * 256 : Nat) : Int) ≠ 0 := by omega
    have h' : (((a / 256 % 16 * 256 : Nat) : Int) != 0) = true := by rw [bne_iff_ne]; exact this
    rw [h']; simp [h]

/-- Bits beyond the flags. -/
theorem flag_bits (x : Int) (h0 : -9223372036854775808 ≤ x) (h1 : x < 9223372036854775808) : (bits .and .i64 x (-256) != 0) = !inBb x 255 := by
  obtain ⟨a, ha⟩ : ∃ a, (BitVec.ofInt 64 x).toNat = a := ⟨_, rfl⟩
  have ha' : (a : Int) = x % 18446744073709551616 := by
    rw [← ha, BitVec.toNat_ofInt]
    omega
  have e2 : (BitVec.ofInt 64 (-256 : Int)).toNat = (2 ^ 56 - 1) <<< 8 := by decide
  have e : bits .and .i64 x (-256) = IntKind.i64.wrap ((a / 256 % 2 ^ 56 * 256 : Nat) : Int) := by
    show IntKind.i64.wrap ((BitVec.ofInt 64 x &&& BitVec.ofInt 64 (-256 : Int)).toNat : Int) = _
    rw [BitVec.toNat_and, ha, e2, and_shifted]
  rw [e, IntKind.wrap_i64]
  unfold inBb
  by_cases h : inB x 255
  · have hh := h
    unfold inB at hh
    have : (((a / 256 % 2 ^ 56 * 256 : Nat) : Int) + 9223372036854775808) % 18446744073709551616 - 9223372036854775808 = 0 := by omega
    rw [this]; simp [h]
  · have hh := h
    unfold inB at hh
    have : (((a / 256 % 2 ^ 56 * 256 : Nat) : Int) + 9223372036854775808) % 18446744073709551616 - 9223372036854775808 ≠ 0 := by omega
    have h' : ((((a / 256 % 2 ^ 56 * 256 : Nat) : Int) + 9223372036854775808) % 18446744073709551616 - 9223372036854775808 != 0) = true := by rw [bne_iff_ne]; exact this
    rw [h']; simp [h]

theorem getD_set_ne (l : List Int) (i j : Nat) (y : Int) (h : i ≠ j) : (l.set i y).getD j 0 = l.getD j 0 := by
  simp [List.getD, List.getElem?_set_ne h]

/-- One byte behind the header's length that is another is found. -/
theorem turnedT (s d : Int) (p : Pc) (k : p.Ok) (f : TArg p) (i : Nat) (y : Int) (hi : i < (builtT s d p).length) (h12 : i ≠ 12) (hy0 : 0 ≤ y) (hy1 : y < 256) (hne : y ≠ (builtT s d p).getD i 0) :
    parseT s d ((builtT s d p).set i y) = 5 := by
  have g := tgood_built s d p k f
  have hb := builtT_bytes s d p k
  generalize builtT s d p = l at *
  obtain ⟨a, b, z, c, e⟩ := g
  have e12 : b1 (l.set i y) 12 = b1 l 12 := getD_set_ne l i 12 y h12
  have eh : hdT (l.set i y) = hdT l := by unfold hdT; rw [e12]
  have hz := getD_byte l hb i
  have hp := ws_pseudo_pos6 s d (l.length : Int)
  have hs := wsAux_set 0 l i y hi
  have hbs : isBytes (l.set i y) := by
    intro z hz
    rcases List.mem_or_eq_of_mem_set hz with h | rfl
    · exact hb z h
    · exact ⟨hy0, hy1⟩
  have hw := ws_bd _ hbs
  have hw' := ws_bd _ hb
  unfold parseT
  rw [List.length_set, eh, e12, if_neg (by omega), if_neg (by omega), if_neg (by omega), if_pos]
  intro h
  rw [ws_pseudo_append] at e h
  rw [fold65535 _ (by omega)] at e h
  unfold ws at *
  rw [hs] at h
  generalize wsAux 0 (pseudoB s d 6 (l.length : Int)) = P at *
  generalize wsAux 0 l = S at *
  generalize l.getD i 0 = x at *
  split at h <;> omega
end Go.Proofs.Ytdejjokgchbgnaa
