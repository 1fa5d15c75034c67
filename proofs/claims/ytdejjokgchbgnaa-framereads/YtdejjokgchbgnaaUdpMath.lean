/- Plain mathematics: the bytes of a datagram of UDP. No program in sight. -/
import Derived.Test.YtdejjokgchbgnaaNum
set_option maxRecDepth 100000
namespace Go.Proofs.Ytdejjokgchbgnaa

/-- The pseudo header, of any numbers. -/
def pseudoB (s d p n : Int) : List Int :=
  [s / 16777216 % 256, s / 65536 % 256, s / 256 % 256, s % 256, d / 16777216 % 256, d / 65536 % 256, d / 256 % 256, d % 256, 0, p % 256, n / 256 % 256, n % 256]

theorem pseudo_length (s d p n : Int) : (pseudoB s d p n).length = 12 := rfl

theorem pseudo_bytes (s d p n : Int) : isBytes (pseudoB s d p n) := by
  intro z hz
  simp only [pseudoB, List.mem_cons, List.not_mem_nil, or_false] at hz
  rcases hz with rfl | rfl | rfl | rfl | rfl | rfl | rfl | rfl | rfl | rfl | rfl | rfl <;> omega

theorem ws_pseudo_append (s d p n : Int) (m : List Int) : ws (pseudoB s d p n ++ m) = ws (pseudoB s d p n) + ws m := ws_append_even _ _ (by rw [pseudo_length])

structure Ud where
  src : Int
  dst : Int
  bare : Bool
  data : List Int

def Ud.zero : Ud := ⟨0, 0, false, []⟩

def Ud.size (u : Ud) : Int := 8 + u.data.length

/-- The header, with c for the check. -/
def headU (u : Ud) (c : Int) : List Int :=
  [u.src / 256 % 256, u.src % 256, u.dst / 256 % 256, u.dst % 256, u.size / 256 % 256, u.size % 256, c / 256 % 256, c % 256]

theorem headU_length (u : Ud) (c : Int) : (headU u c).length = 8 := rfl

theorem headU_bytes (u : Ud) (c : Int) : isBytes (headU u c) := by
  intro z hz
  simp only [headU, List.mem_cons, List.not_mem_nil, or_false] at hz
  rcases hz with rfl | rfl | rfl | rfl | rfl | rfl | rfl | rfl <;> omega

/-- What pseudo header, header and data add, with 0 for the check. -/
def allU (s d : Int) (u : Ud) : Int := ws (pseudoB s d 17 u.size ++ (headU u 0 ++ u.data))

def checkU (s d : Int) (u : Ud) : Int := turn16 (fold16 (allU s d u))

def shownI (c : Int) : Int := if c = 0 then 65535 else c

def fieldU (s d : Int) (u : Ud) : Int := if u.bare then 0 else shownI (checkU s d u)

def builtU (s d : Int) (u : Ud) : List Int := headU u (fieldU s d u) ++ u.data

structure UFits (u : Ud) : Prop where
  src : inB u.src 65535
  dst : inB u.dst 65535
  all : u.data.length ≤ 2020

def buildU (u : Ud) : Int := if ¬ inB u.src 65535 then 1 else if ¬ inB u.dst 65535 then 1 else if 2020 < u.data.length then 3 else 0

theorem ufits_of (u : Ud) (h : buildU u = 0) : UFits u := by
  unfold buildU at h
  split at h; · omega
  split at h; · omega
  split at h; · omega
  constructor <;> first | omega | (apply Decidable.of_not_not; assumption)

theorem checkU_bd (s d : Int) (u : Ud) : 0 ≤ checkU s d u ∧ checkU s d u ≤ 65535 := by
  unfold checkU; rw [turn_fold]; have := fold16_bd (allU s d u); omega

theorem shown_bd (c : Int) (h0 : 0 ≤ c) (h1 : c ≤ 65535) : 1 ≤ shownI c ∧ shownI c ≤ 65535 := by
  unfold shownI; split <;> omega

theorem fieldU_bd (s d : Int) (u : Ud) : 0 ≤ fieldU s d u ∧ fieldU s d u ≤ 65535 := by
  unfold fieldU
  split
  · omega
  · have := checkU_bd s d u
    have := shown_bd _ this.1 this.2
    omega

theorem fieldU_bare (s d : Int) (u : Ud) : fieldU s d u = 0 ↔ u.bare = true := by
  unfold fieldU
  split
  · simp [*]
  · have := checkU_bd s d u
    have := shown_bd _ this.1 this.2
    constructor
    · intro h; omega
    · intro h; contradiction

theorem builtU_length (s d : Int) (u : Ud) : (builtU s d u).length = 8 + u.data.length := by
  unfold builtU; rw [List.length_append, headU_length]

theorem builtU_bytes (s d : Int) (u : Ud) (h : isBytes u.data) : isBytes (builtU s d u) := isBytes_append (headU_bytes _ _) h

theorem ws_headU (u : Ud) (c : Int) (h0 : 0 ≤ c) (h1 : c ≤ 65535) : ws (headU u c) = ws (headU u 0) + c := by
  simp only [headU, ws, wsAux]
  simp
  omega

theorem ws_headU_append (u : Ud) (c : Int) (m : List Int) : ws (headU u c ++ m) = ws (headU u c) + ws m := ws_append_even _ _ (by rw [headU_length])

theorem allU_eq (s d : Int) (u : Ud) : allU s d u = ws (pseudoB s d 17 u.size) + (ws (headU u 0) + ws u.data) := by
  unfold allU; rw [ws_pseudo_append, ws_headU_append]

theorem ws_pseudo_pos (s d n : Int) : 0 < ws (pseudoB s d 17 n) := by
  have hb := pseudo_bytes s d 17 n
  simp only [pseudoB, ws, wsAux]
  simp
  omega

/-- The sum over what was built, from wherever to wherever. -/
theorem ws_built (s d s' d' : Int) (u : Ud) : ws (pseudoB s' d' 17 u.size ++ builtU s d u) = ws (pseudoB s' d' 17 u.size) + (ws (headU u 0) + ws u.data) + fieldU s d u := by
  have hf := fieldU_bd s d u
  unfold builtU
  rw [ws_pseudo_append, ws_headU_append, ws_headU u _ hf.1 hf.2]
  omega

/-- What the bytes say of a length and a check. -/
def parseU (s d : Int) (l : List Int) : Int :=
  if l.length < 8 then 2
  else if w2 l 4 < 8 then 4
  else if (l.length : Int) < w2 l 4 then 2
  else if w2 l 6 ≠ 0 ∧ fold16 (ws (pseudoB s d 17 (w2 l 4) ++ l.take (w2 l 4).toNat)) ≠ 65535 then 5
  else 0

structure UGood (s d : Int) (l : List Int) : Prop where
  a : 8 ≤ l.length
  b : 8 ≤ w2 l 4
  c : w2 l 4 ≤ l.length
  d : w2 l 6 = 0 ∨ fold16 (ws (pseudoB s d 17 (w2 l 4) ++ l.take (w2 l 4).toNat)) = 65535

theorem ugood_of (s d : Int) (l : List Int) (h : parseU s d l = 0) : UGood s d l := by
  unfold parseU at h
  split at h; · omega
  split at h; · omega
  split at h; · omega
  split at h; · omega
  rename_i q
  refine ⟨by omega, by omega, by omega, ?_⟩
  by_cases h0 : w2 l 6 = 0
  · exact .inl h0
  · right
    by_cases h1 : fold16 (ws (pseudoB s d 17 (w2 l 4) ++ l.take (w2 l 4).toNat)) = 65535
    · exact h1
    · exact absurd ⟨h0, h1⟩ q

theorem parse_ugood (s d : Int) (l : List Int) (g : UGood s d l) : parseU s d l = 0 := by
  obtain ⟨a, b, c, e⟩ := g
  unfold parseU
  rw [if_neg (by omega), if_neg (by omega), if_neg (by omega), if_neg]
  rintro ⟨h0, h1⟩
  rcases e with e | e
  · exact h0 e
  · exact h1 e

def udOf (l : List Int) : Ud := { src := w2 l 0, dst := w2 l 2, bare := decide (w2 l 6 = 0), data := (l.drop 8).take ((w2 l 4).toNat - 8) }

theorem size_nat (u : Ud) : (u.size).toNat = 8 + u.data.length := by unfold Ud.size; omega

theorem w2_size (s d : Int) (u : Ud) (f : UFits u) (m : List Int) : w2 (builtU s d u ++ m) 4 = u.size := by
  have := f.all
  show u.size / 256 % 256 * 256 + u.size % 256 = _
  unfold Ud.size
  omega

theorem w2_field (s d : Int) (u : Ud) (m : List Int) : w2 (builtU s d u ++ m) 6 = fieldU s d u := by
  have := fieldU_bd s d u
  show fieldU s d u / 256 % 256 * 256 + fieldU s d u % 256 = _
  omega

theorem take_built (s d : Int) (u : Ud) (m : List Int) : (builtU s d u ++ m).take (u.size).toNat = builtU s d u := by
  rw [size_nat, ← builtU_length s d u, List.take_left]

theorem check_right (s d : Int) (u : Ud) (hb : isBytes u.data) (h : u.bare = false) : fold16 (ws (pseudoB s d 17 u.size ++ builtU s d u)) = 65535 := by
  have hp := ws_pseudo_pos s d u.size
  have hh := ws_bd _ (headU_bytes u 0)
  have hd := ws_bd _ hb
  rw [ws_built, fold65535 _ (by have := (fieldU_bd s d u).1; omega)]
  have ha := allU_eq s d u
  unfold fieldU
  rw [if_neg (by simp [h])]
  unfold shownI checkU
  rw [turn_fold, ha]
  have hX : 0 < ws (pseudoB s d 17 u.size) + (ws (headU u 0) + ws u.data) := by omega
  generalize ws (pseudoB s d 17 u.size) + (ws (headU u 0) + ws u.data) = X at *
  have hfo : fold16 X = (X - 1) % 65535 + 1 := by unfold fold16; rw [if_neg (by omega)]
  rw [hfo]
  split <;> omega

/-- What was built is read back, whatever stands behind. -/
theorem ugood_built (s d : Int) (u : Ud) (f : UFits u) (hb : isBytes u.data) (m : List Int) : UGood s d (builtU s d u ++ m) := by
  have e4 := w2_size s d u f m
  have e6 := w2_field s d u m
  have hl : (builtU s d u ++ m).length = 8 + u.data.length + m.length := by rw [List.length_append, builtU_length]
  have hs : u.size = 8 + (u.data.length : Int) := rfl
  refine ⟨by omega, by omega, by omega, ?_⟩
  rw [e4, e6, take_built]
  cases h : u.bare
  · right; exact check_right s d u hb h
  · left; exact (fieldU_bare s d u).2 h

theorem ud_built (s d : Int) (u : Ud) (f : UFits u) (m : List Int) : udOf (builtU s d u ++ m) = u := by
  have e4 := w2_size s d u f m
  have e6 := w2_field s d u m
  have fs := f.src
  have fd := f.dst
  unfold inB at fs fd
  unfold udOf
  rw [e4, e6]
  have e0 : w2 (builtU s d u ++ m) 0 = u.src := by show u.src / 256 % 256 * 256 + u.src % 256 = _; omega
  have e2 : w2 (builtU s d u ++ m) 2 = u.dst := by show u.dst / 256 % 256 * 256 + u.dst % 256 = _; omega
  have e8 : ((builtU s d u ++ m).drop 8).take ((u.size).toNat - 8) = u.data := by
    have : (builtU s d u ++ m).drop 8 = u.data ++ m := by simp [builtU, headU]
    rw [this, size_nat, show 8 + u.data.length - 8 = u.data.length by omega, List.take_left]
  have eb : decide (fieldU s d u = 0) = u.bare := by
    cases h : u.bare
    · exact decide_eq_false (fun h' => by rw [(fieldU_bare s d u).1 h'] at h; cases h)
    · exact decide_eq_true ((fieldU_bare s d u).2 h)
  rw [e0, e2, e8, eb]

/-- Between other addresses only as the sum lets it. -/
theorem other_built (s d d' : Int) (u : Ud) (f : UFits u) (hb : isBytes u.data) :
    parseU s d' (builtU s d u) = 0 ↔ (u.bare = true ∨ fold16 (ws (pseudoB s d 17 u.size)) = fold16 (ws (pseudoB s d' 17 u.size))) := by
  have e4 := w2_size s d u f []
  have e6 := w2_field s d u []
  rw [List.append_nil] at e4 e6
  have ht := take_built s d u []
  rw [List.append_nil] at ht
  have hl := builtU_length s d u
  have hs : u.size = 8 + (u.data.length : Int) := rfl
  unfold parseU
  rw [if_neg (by omega), e4, if_neg (by omega), if_neg (by omega), e6, ht]
  have hp := ws_pseudo_pos s d u.size
  have hq := ws_pseudo_pos s d' u.size
  have hh := ws_bd _ (headU_bytes u 0)
  have hd := ws_bd _ hb
  have hf := fieldU_bd s d u
  have hbr := fieldU_bare s d u
  cases hu : u.bare
  case true =>
    rw [hu] at hbr
    have := hbr.2 rfl
    simp [this]
  case false =>
    rw [hu] at hbr
    have hne : fieldU s d u ≠ 0 := fun h => by have := hbr.1 h; cases this
    have hr := check_right s d u hb hu
    have r1 : (ws (pseudoB s d 17 u.size) + (ws (headU u 0) + ws u.data) + fieldU s d u) % 65535 = 0 := by
      rw [ws_built, fold65535 _ (by omega)] at hr; exact hr
    have key : fold16 (ws (pseudoB s d' 17 u.size ++ builtU s d u)) = 65535 ↔ fold16 (ws (pseudoB s d 17 u.size)) = fold16 (ws (pseudoB s d' 17 u.size)) := by
      rw [ws_built, fold65535 _ (by omega)]
      unfold fold16
      rw [if_neg (by omega), if_neg (by omega)]
      generalize ws (pseudoB s d 17 u.size) = P at *
      generalize ws (pseudoB s d' 17 u.size) = Q at *
      generalize ws (headU u 0) + ws u.data + fieldU s d u = B at *
      omega
    by_cases hk : fold16 (ws (pseudoB s d' 17 u.size ++ builtU s d u)) = 65535
    · simp [hne, hk, key.1 hk]
    · have hk' : ¬ fold16 (ws (pseudoB s d 17 u.size)) = fold16 (ws (pseudoB s d' 17 u.size)) := fun h => hk (key.2 h)
      simp [hne, hk, hk']
end Go.Proofs.Ytdejjokgchbgnaa
