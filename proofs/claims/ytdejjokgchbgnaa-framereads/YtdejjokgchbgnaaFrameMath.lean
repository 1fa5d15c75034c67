/- Plain mathematics: what a frame is, and what a fault quotes. No program in sight. -/
import Derived.Test.YtdejjokgchbgnaaIpMath
import Derived.Test.YtdejjokgchbgnaaTcpMath
import Derived.Test.YtdejjokgchbgnaaIcmpMath
set_option maxRecDepth 100000
namespace Go.Proofs.Ytdejjokgchbgnaa
open Go.RowKit

/-- What a fault quotes. -/
structure Inn where
  proto : Int
  sa : Int
  sp : Int
  da : Int
  dp : Int

def Inn.zero : Inn := ⟨0, 0, 0, 0, 0⟩

theorem drop_b1 (l : List Int) (h k : Nat) : b1 (l.drop h) k = b1 l (h + k) := by
  unfold b1; simp [List.getD]

theorem drop_w2 (l : List Int) (h k : Nat) : w2 (l.drop h) k = w2 l (h + k) := by
  unfold w2; simp [List.getD, Nat.add_assoc]

theorem w4_high (l : List Int) (hb : isBytes l) (k : Nat) : w4 l k / 65536 = w2 l k := by
  have h1 := getD_byte l hb k
  have h2 := getD_byte l hb (k + 1)
  have h3 := getD_byte l hb (k + 2)
  have h4 := getD_byte l hb (k + 3)
  unfold w4 w2
  omega

/-- The protocol of a kind. -/
def protoK (k : Int) : Int := if k = 1 then 17 else if k = 2 then 6 else if k = 3 ∨ k = 4 then 1 else 0

theorem proto_kind (t c : Int) : protoK (kindW t c) = 1 ↔ (t = 8 ∨ t = 0) ∧ c = 0 := by
  unfold kindW
  split
  · rename_i h; simp [protoK, h]
  · split
    · rename_i h; simp [protoK, h]
    · split
      · rename_i h1 h2 h3; simp [protoK]; omega
      · simp [protoK]; omega

/-- What errors become. -/
def whyI (e : Int) : Int := if e = 5 then 2 else 1

theorem whyI_pos (e : Int) : ¬ whyI e = 0 := by unfold whyI; split <;> decide

/-- A quoted header that can be read. -/
structure Head (l : List Int) : Prop where
  a : 20 ≤ l.length
  c : b1 l 0 / 16 = 4
  d : 20 ≤ hdOf l
  e : hdOf l + 8 ≤ l.length

instance (l : List Int) : Decidable (Head l) := decidable_of_iff (20 ≤ l.length ∧ b1 l 0 / 16 = 4 ∧ 20 ≤ hdOf l ∧ hdOf l + 8 ≤ l.length) ⟨fun h => ⟨h.1, h.2.1, h.2.2.1, h.2.2.2⟩, fun h => ⟨h.a, h.c, h.d, h.e⟩⟩

/-- Is it an echo? -/
def echoB (m : List Int) : Bool := decide ((b1 m 0 = 8 ∨ b1 m 0 = 0) ∧ b1 m 1 = 0)

/-- The ports that a quoted body begins with. -/
def portsOf (x : Int) (m : List Int) : Option (Int × Int) :=
  if x = 17 ∨ x = 6 then some (w2 m 0, w2 m 2) else if x = 1 ∧ echoB m = true then some (w2 m 4, w2 m 4) else none

def innOf (l : List Int) (q : Int × Int) : Inn := ⟨b1 l 9, w4 l 12, q.1, w4 l 16, q.2⟩

def quoteO (l : List Int) : Option Inn :=
  if Head l ∧ w2 l 6 % 8192 = 0 then (portsOf (b1 l 9) (l.drop (hdOf l).toNat)).map (innOf l) else none

/-- What is read of a datagram's body: why it is no frame (0: it is one), its kind, its ports, its flags, what it quotes. -/
structure Rs where
  why : Int
  kind : Int
  fp : Int
  tp : Int
  flags : Int
  inner : Inn

def noRs (y : Int) : Rs := ⟨y, 0, 0, 0, 0, Inn.zero⟩

def rsU (p : Dg) : Rs := if parseU p.src p.dst p.body = 0 then ⟨0, 1, w2 p.body 0, w2 p.body 2, 0, Inn.zero⟩ else noRs (whyI (parseU p.src p.dst p.body))

def rsT (p : Dg) : Rs := if parseT p.src p.dst p.body = 0 then ⟨0, 2, w2 p.body 0, w2 p.body 2, b1 p.body 13, Inn.zero⟩ else noRs (whyI (parseT p.src p.dst p.body))

def rsF (l : List Int) : Rs := match quoteO l with
  | some x => ⟨0, 5, 0, 0, 0, x⟩
  | none => noRs 1

def rsK (m : List Int) : Rs :=
  if kindW (b1 m 0) (b1 m 1) = 0 then noRs 4 else if kindW (b1 m 0) (b1 m 1) = 5 then rsF (m.drop 8) else ⟨0, kindW (b1 m 0) (b1 m 1), w2 m 4, w2 m 4, 0, Inn.zero⟩

def rsW (p : Dg) : Rs := if parseW p.body = 0 then rsK p.body else noRs (whyI (parseW p.body))

def rsOf (p : Dg) : Rs := if p.proto = 17 then rsU p else if p.proto = 6 then rsT p else if p.proto = 1 then rsW p else noRs 4

/-- Is it a part? -/
def partB (p : Dg) : Bool := p.mf || decide (p.off ≠ 0)

def readR (l : List Int) : Rs := if parseE l = 0 then (if partB (dgOf l) = true then noRs 3 else rsOf (dgOf l)) else noRs (whyI (parseE l))

theorem no_rs (r : Rs) (y : Int) (h : r = noRs y) : r.why = y := by rw [h]; rfl

theorem rsU_no (p : Dg) (h : ¬ (rsU p).why = 0) : rsU p = noRs (rsU p).why := by
  unfold rsU at *; split <;> simp_all [noRs]

theorem rsT_no (p : Dg) (h : ¬ (rsT p).why = 0) : rsT p = noRs (rsT p).why := by
  unfold rsT at *; split <;> simp_all [noRs]

theorem rsF_no (l : List Int) (h : ¬ (rsF l).why = 0) : rsF l = noRs (rsF l).why := by
  unfold rsF at *; split <;> simp_all [noRs]

theorem rsK_no (l : List Int) (h : ¬ (rsK l).why = 0) : rsK l = noRs (rsK l).why := by
  unfold rsK at *
  split
  · rfl
  · rename_i h1
    rw [if_neg h1] at h
    split
    · rename_i h2
      rw [if_pos h2] at h
      exact rsF_no _ h
    · rename_i h2
      rw [if_neg h2] at h
      exact absurd rfl h

theorem rsW_no (p : Dg) (h : ¬ (rsW p).why = 0) : rsW p = noRs (rsW p).why := by
  unfold rsW at *
  split
  · rename_i h1
    rw [if_pos h1] at h
    exact rsK_no _ h
  · rfl

theorem rsOf_no (p : Dg) (h : ¬ (rsOf p).why = 0) : rsOf p = noRs (rsOf p).why := by
  unfold rsOf at *
  split
  · rename_i h1; rw [if_pos h1] at h; exact rsU_no p h
  · rename_i h1
    rw [if_neg h1] at h
    split
    · rename_i h2; rw [if_pos h2] at h; exact rsT_no p h
    · rename_i h2
      rw [if_neg h2] at h
      split
      · rename_i h3; rw [if_pos h3] at h; exact rsW_no p h
      · rfl

theorem readR_no (l : List Int) (h : ¬ (readR l).why = 0) : readR l = noRs (readR l).why := by
  unfold readR at *
  split
  · rename_i h1
    rw [if_pos h1] at h
    split
    · rfl
    · rename_i h2
      rw [if_neg h2] at h
      exact rsOf_no _ h
  · rfl

theorem readR_ok (l : List Int) (h : (readR l).why = 0) : parseE l = 0 ∧ partB (dgOf l) = false ∧ readR l = rsOf (dgOf l) := by
  unfold readR at *
  split
  · rename_i h1
    rw [if_pos h1] at h
    split
    · rename_i h2
      rw [if_pos h2] at h
      exact absurd h (by decide)
    · rename_i h2
      exact ⟨h1, by simpa using h2, rfl⟩
  · rename_i h1
    rw [if_neg h1] at h
    exact absurd h (whyI_pos _)
end Go.Proofs.Ytdejjokgchbgnaa
