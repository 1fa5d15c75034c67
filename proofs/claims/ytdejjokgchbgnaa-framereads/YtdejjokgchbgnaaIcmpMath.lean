/- Plain mathematics: the bytes of a message of ICMP. No program in sight. -/
import Derived.Test.YtdejjokgchbgnaaNum
set_option maxRecDepth 100000
namespace Go.Proofs.Ytdejjokgchbgnaa
open Go.RowKit

structure Wd where
  type : Int
  code : Int
  rest : Int
  data : List Int

def Wd.zero : Wd := ⟨0, 0, 0, []⟩

/-- What the kinds of the numbers say. -/
structure Wd.Ok (m : Wd) : Prop where
  rest0 : 0 ≤ m.rest
  rest1 : m.rest < 4294967296
  data : isBytes m.data

/-- The first eight bytes, with c for the check. -/
def headW (m : Wd) (c : Int) : List Int :=
  [m.type % 256, m.code % 256, c / 256 % 256, c % 256, m.rest / 16777216 % 256, m.rest / 65536 % 256, m.rest / 256 % 256, m.rest % 256]

theorem headW_length (m : Wd) (c : Int) : (headW m c).length = 8 := rfl

theorem headW_bytes (m : Wd) (c : Int) : isBytes (headW m c) := by
  intro z hz
  simp only [headW, List.mem_cons, List.not_mem_nil, or_false] at hz
  rcases hz with rfl | rfl | rfl | rfl | rfl | rfl | rfl | rfl <;> omega

/-- What header and data add, with 0 for the check. -/
def allW (m : Wd) : Int := ws (headW m 0 ++ m.data)

def checkW (m : Wd) : Int := turn16 (fold16 (allW m))

def builtW (m : Wd) : List Int := headW m (checkW m) ++ m.data

structure WFits (m : Wd) : Prop where
  type : inB m.type 255
  code : inB m.code 255
  all : m.data.length ≤ 2020

def buildW (m : Wd) : Int := if ¬ inB m.type 255 then 1 else if ¬ inB m.code 255 then 1 else if 2020 < m.data.length then 3 else 0

theorem wfits_of (m : Wd) (h : buildW m = 0) : WFits m := by
  unfold buildW at h
  split at h; · omega
  split at h; · omega
  split at h; · omega
  constructor <;> first | omega | (apply Decidable.of_not_not; assumption)

theorem checkW_bd (m : Wd) : 0 ≤ checkW m ∧ checkW m ≤ 65535 := by
  unfold checkW; rw [turn_fold]; have := fold16_bd (allW m); omega

theorem builtW_length (m : Wd) : (builtW m).length = 8 + m.data.length := by
  unfold builtW; rw [List.length_append, headW_length]

theorem builtW_bytes (m : Wd) (h : isBytes m.data) : isBytes (builtW m) := isBytes_append (headW_bytes _ _) h

theorem ws_headW (m : Wd) (c : Int) (h0 : 0 ≤ c) (h1 : c ≤ 65535) : ws (headW m c) = ws (headW m 0) + c := by
  simp only [headW, ws, wsAux]
  simp
  omega

theorem ws_headW_append (m : Wd) (c : Int) (l : List Int) : ws (headW m c ++ l) = ws (headW m c) + ws l := ws_append_even _ _ (by rw [headW_length])

theorem allW_eq (m : Wd) : allW m = ws (headW m 0) + ws m.data := by
  unfold allW; rw [ws_headW_append]

/-- The sum over what was built. -/
theorem ws_builtW (m : Wd) : ws (builtW m) = allW m + checkW m := by
  have hf := checkW_bd m
  rw [allW_eq]
  unfold builtW
  rw [ws_headW_append, ws_headW m _ hf.1 hf.2]
  omega

theorem allW_nonneg (m : Wd) (hb : isBytes m.data) : 0 ≤ allW m := by
  have hh := ws_bd _ (headW_bytes m 0)
  have hd := ws_bd _ hb
  rw [allW_eq]
  omega

/-- The check is right: also of bytes that are all 0. -/
theorem fold_builtW (m : Wd) (hb : isBytes m.data) : fold16 (ws (builtW m)) = 65535 := by
  have h0 := allW_nonneg m hb
  have hc := checkW_bd m
  have hk : checkW m = 65535 - fold16 (allW m) := by unfold checkW; rw [turn_fold]
  rw [ws_builtW]
  by_cases hz : allW m = 0
  · rw [hz] at hk ⊢
    have : fold16 0 = 0 := by decide
    rw [hk, this]
    decide
  · have hfo : fold16 (allW m) = (allW m - 1) % 65535 + 1 := by unfold fold16; rw [if_neg (by omega)]
    rw [fold65535 _ (by omega), hk, hfo]
    omega

def parseW (l : List Int) : Int := if l.length < 8 then 2 else if fold16 (ws l) ≠ 65535 then 5 else 0

structure WGood (l : List Int) : Prop where
  a : 8 ≤ l.length
  e : fold16 (ws l) = 65535

theorem wgood_of (l : List Int) (h : parseW l = 0) : WGood l := by
  unfold parseW at h
  split at h; · omega
  split at h; · omega
  exact ⟨by omega, by apply Decidable.of_not_not; assumption⟩

theorem parse_wgood (l : List Int) (g : WGood l) : parseW l = 0 := by
  have := g.a
  unfold parseW
  rw [if_neg (by omega), if_neg (fun h => h g.e)]

def wdOf (l : List Int) : Wd := { type := b1 l 0, code := b1 l 1, rest := w4 l 4, data := l.drop 8 }

theorem wgood_built (m : Wd) (hb : isBytes m.data) : WGood (builtW m) := ⟨by rw [builtW_length]; omega, fold_builtW m hb⟩

theorem wd_built (m : Wd) (k : m.Ok) (f : WFits m) : wdOf (builtW m) = m := by
  have ft := f.type
  have fc := f.code
  have r0 := k.rest0
  have r1 := k.rest1
  unfold inB at ft fc
  have e0 : b1 (builtW m) 0 = m.type := by show m.type % 256 = _; omega
  have e1 : b1 (builtW m) 1 = m.code := by show m.code % 256 = _; omega
  have e4 : w4 (builtW m) 4 = m.rest := by
    show ((m.rest / 16777216 % 256 * 256 + m.rest / 65536 % 256) * 256 + m.rest / 256 % 256) * 256 + m.rest % 256 = _
    omega
  have e8 : (builtW m).drop 8 = m.data := by simp [builtW, headW]
  unfold wdOf
  rw [e0, e1, e4, e8]

/-- One byte that is another one is found. -/
theorem turnedW (m : Wd) (k : m.Ok) (i : Nat) (y : Int) (hi : i < (builtW m).length) (hy0 : 0 ≤ y) (hy1 : y < 256) (hne : y ≠ (builtW m).getD i 0) :
    parseW ((builtW m).set i y) = 5 := by
  have g := wgood_built m k.data
  have hb := builtW_bytes m k.data
  generalize builtW m = l at *
  obtain ⟨a, e⟩ := g
  have hz := getD_byte l hb i
  have hs := wsAux_set 0 l i y hi
  have hbs : isBytes (l.set i y) := by
    intro z hz
    rcases List.mem_or_eq_of_mem_set hz with h | rfl
    · exact hb z h
    · exact ⟨hy0, hy1⟩
  have hw := ws_bd _ hbs
  have hw' := ws_bd _ hb
  unfold parseW
  rw [List.length_set, if_neg (by omega), if_pos]
  intro h
  have p1 : 0 < ws l := by
    rcases Int.lt_or_le 0 (ws l) with h' | h'
    · exact h'
    · have : ws l = 0 := by omega
      rw [this] at e
      exact absurd e (by decide)
  have p2 : 0 < ws (l.set i y) := by
    rcases Int.lt_or_le 0 (ws (l.set i y)) with h' | h'
    · exact h'
    · have : ws (l.set i y) = 0 := by omega
      rw [this] at h
      exact absurd h (by decide)
  rw [fold65535 _ p1] at e
  rw [fold65535 _ p2] at h
  unfold ws at *
  rw [hs] at h
  generalize wsAux 0 l = S at *
  generalize l.getD i 0 = x at *
  split at h <;> omega

/-- What a message is, by the numbers of the document: a query, an answer, an error, or nothing. -/
def kindW (t c : Int) : Int := if t = 8 ∧ c = 0 then 3 else if t = 0 ∧ c = 0 then 4 else if t = 3 ∨ t = 11 ∨ t = 12 then 5 else 0
end Go.Proofs.Ytdejjokgchbgnaa
