/- Plain mathematics: entries of the log, and their bytes. No program in sight. -/
import Derived.Test.YtafkkehcacdodaaGreatNum
set_option maxRecDepth 100000
namespace Go.Proofs.YtafkkehcacdodaaGreat
open Go.RowKit

/-- The lowest n bytes of a number, the highest first. -/
def bigE : Nat → Int → List Int
  | 0, _ => []
  | n + 1, x => bigE n (x / 256) ++ [x % 256]

theorem bigE_length (n : Nat) (x : Int) : (bigE n x).length = n := by
  induction n generalizing x with
  | zero => rfl
  | succ n ih => simp [bigE, ih]

theorem isBytes_snoc {l : List Int} {c : Int} (h : isBytes l) (h0 : 0 ≤ c) (h1 : c < 256) : isBytes (l ++ [c]) := by
  intro z hz
  rcases List.mem_append.1 hz with h' | h'
  · exact h z h'
  · rw [List.mem_singleton.1 h']; exact ⟨h0, h1⟩

theorem bigE_bytes (n : Nat) (x : Int) : isBytes (bigE n x) := by
  induction n generalizing x with
  | zero => intro z hz; cases hz
  | succ n ih => exact isBytes_snoc (ih _) (by omega) (by omega)

theorem num_bigE (n : Nat) (x : Int) : num (bigE n x) = x % 256 ^ n := by
  induction n generalizing x with
  | zero => simp [bigE, num, Int.emod_one]
  | succ n ih => unfold bigE; rw [num_snoc, ih]; exact emod_pow_succ x n

theorem bigE_num (l : List Int) (hb : isBytes l) : bigE l.length (num l) = l := by
  suffices H : ∀ (n : Nat) (l : List Int), l.length = n → isBytes l → bigE n (num l) = l from H _ l rfl hb
  intro n
  induction n with
  | zero => intro l hl _; rw [List.eq_nil_of_length_eq_zero hl]; rfl
  | succ n ih =>
    intro l hl hb
    obtain ⟨m, c, rfl⟩ : ∃ m c, l = m ++ [c] := ⟨l.dropLast, l.getLast (by intro h; subst h; cases hl), (List.dropLast_concat_getLast _).symm⟩
    have hm : m.length = n := by simpa using hl
    have hc := hb c (by simp)
    have hbm : isBytes m := fun z hz => hb z (by simp [hz])
    unfold bigE
    rw [num_snoc, show (num m * 256 + c) / 256 = num m by omega, show (num m * 256 + c) % 256 = c by omega, ih m hm hbm]

/-- The highest byte ahead. -/
theorem bigE_head (n : Nat) (x : Int) : bigE (n + 1) x = (x / 256 ^ n % 256) :: bigE n x := by
  induction n generalizing x with
  | zero => simp [bigE]
  | succ n ih =>
    rw [show bigE (n + 1 + 1) x = bigE (n + 1) (x / 256) ++ [x % 256] from rfl, ih (x / 256)]
    have : x / 256 / 256 ^ n = x / 256 ^ (n + 1) := by rw [Int.pow_succ, Int.mul_comm, Int.ediv_ediv_of_nonneg (by decide)]
    rw [this]
    rfl

theorem lay_mid (n : Nat) : ∀ (l : List Int) (p : Nat) (x : Int), p + n ≤ l.length → lay l p n x = l.take p ++ bigE n x ++ l.drop (p + n) := by
  induction n with
  | zero => intro l p x _; simp [lay, bigE]
  | succ n ih =>
    intro l p x h
    show lay (l.set (p + n) (x % 256)) p n (x / 256) = _
    rw [ih _ _ _ (by simp; omega), List.take_set_of_le (by omega), show bigE (n + 1) x = bigE n (x / 256) ++ [x % 256] from rfl]
    have : (l.set (p + n) (x % 256)).drop (p + n) = (x % 256) :: l.drop (p + (n + 1)) := by
      rw [List.drop_eq_getElem_cons (by simp; omega)]
      simp [List.drop_set, Nat.add_assoc]
    rw [this]
    simp

theorem lay_zero (n : Nat) (x : Int) : lay (List.replicate n 0) 0 n x = bigE n x := by
  rw [lay_mid n _ 0 x (by simp)]; simp

/-- An entry in numbers. -/
structure En where
  kind : Int
  time : Int
  sub : Int
  addr : Int
  block : Int

def En.zero : En := ⟨0, 0, 0, 0, 0⟩

/-- What the kinds of the numbers say. -/
structure En.Ok (e : En) : Prop where
  kind0 : -9223372036854775808 ≤ e.kind
  kind1 : e.kind ≤ 9223372036854775807
  time0 : -9223372036854775808 ≤ e.time
  time1 : e.time ≤ 9223372036854775807
  sub0 : 0 ≤ e.sub
  sub1 : e.sub < 4294967296
  addr0 : 0 ≤ e.addr
  addr1 : e.addr < 4294967296
  block0 : -9223372036854775808 ≤ e.block
  block1 : e.block ≤ 9223372036854775807

/-- An entry may be. -/
structure En.May (e : En) : Prop where
  time0 : 0 ≤ e.time
  time1 : e.time ≤ 1099511627776
  kind : (e.kind = 1 ∧ e.sub = 0 ∧ e.addr = 0 ∧ e.block = 0) ∨ (e.kind = 2 ∧ 0 ≤ e.block ∧ e.block ≤ 65535) ∨ (e.kind = 3 ∧ 0 ≤ e.block ∧ e.block ≤ 65535 ∧ e.sub = 0)

theorem may_iff (e : En) : e.May ↔ (0 ≤ e.time ∧ e.time ≤ 1099511627776) ∧ ((e.kind = 1 ∧ e.sub = 0 ∧ e.addr = 0 ∧ e.block = 0) ∨ (e.kind = 2 ∧ 0 ≤ e.block ∧ e.block ≤ 65535) ∨ (e.kind = 3 ∧ 0 ≤ e.block ∧ e.block ≤ 65535 ∧ e.sub = 0)) :=
  ⟨fun h => ⟨⟨h.1, h.2⟩, h.3⟩, fun h => ⟨h.1.1, h.1.2, h.2⟩⟩

instance (e : En) : Decidable e.May := decidable_of_iff _ (may_iff e).symm

def mayB (e : En) : Bool := decide e.May

def checkE (e : En) : Int := if mayB e then 0 else 1

/-- The entry's bytes. -/
def bytesE (e : En) : List Int :=
  if e.kind = 1 then bigE 1 e.kind ++ bigE 8 e.time
  else if e.kind = 2 then bigE 1 e.kind ++ bigE 8 e.time ++ bigE 4 e.sub ++ bigE 4 e.addr ++ bigE 2 e.block
  else bigE 1 e.kind ++ bigE 8 e.time ++ bigE 4 e.addr ++ bigE 2 e.block

/-- How many bytes a kind has. -/
def sizeK (k : Int) : Int := if k = 1 then 9 else if k = 2 then 19 else if k = 3 then 15 else 0

/-- What Decode says of the bytes. -/
def whyE (l : List Int) : Int :=
  if l.length = 0 then 2
  else if sizeK (b1 l 0) = 0 then 4
  else if (l.length : Int) < sizeK (b1 l 0) then 2
  else if sizeK (b1 l 0) < (l.length : Int) then 3
  else if 1099511627776 < num ((l.drop 1).take 8) then 1
  else 0

/-- The entry that the bytes are. -/
def entE (l : List Int) : En :=
  if whyE l = 0 then
    (if b1 l 0 = 1 then ⟨b1 l 0, num ((l.drop 1).take 8), 0, 0, 0⟩
     else if b1 l 0 = 2 then ⟨b1 l 0, num ((l.drop 1).take 8), num ((l.drop 9).take 4), num ((l.drop 13).take 4), num ((l.drop 17).take 2)⟩
     else ⟨b1 l 0, num ((l.drop 1).take 8), 0, num ((l.drop 9).take 4), num ((l.drop 13).take 2)⟩)
  else En.zero

theorem whyE_zero {l : List Int} (h : whyE l = 0) : (l.length : Int) = sizeK (b1 l 0) ∧ (b1 l 0 = 1 ∨ b1 l 0 = 2 ∨ b1 l 0 = 3) ∧ num ((l.drop 1).take 8) ≤ 1099511627776 := by
  unfold whyE at h
  split at h; · omega
  split at h; · omega
  split at h; · omega
  split at h; · omega
  split at h; · omega
  rename_i h1 h2 h3 h4 h5
  refine ⟨by omega, ?_, by omega⟩
  unfold sizeK at h2
  split at h2; · omega
  split at h2; · omega
  split at h2; · omega
  omega

theorem whyE_of {l : List Int} (h : (l.length : Int) = sizeK (b1 l 0)) (hk : b1 l 0 = 1 ∨ b1 l 0 = 2 ∨ b1 l 0 = 3) (ht : num ((l.drop 1).take 8) ≤ 1099511627776) : whyE l = 0 := by
  have hs : sizeK (b1 l 0) ≠ 0 := by unfold sizeK; rcases hk with h | h | h <;> rw [h] <;> decide
  unfold whyE
  rw [if_neg (by omega), if_neg hs, if_neg (by omega), if_neg (by omega), if_neg (by omega)]

theorem bigE_one (x : Int) (h0 : 0 ≤ x) (h1 : x < 256) : bigE 1 x = [x] := by
  show [] ++ [x % 256] = [x]
  rw [Int.emod_eq_of_lt h0 h1]; rfl

theorem num_bigE_id (n : Nat) (x m : Int) (hm : (256 : Int) ^ n = m) (h0 : 0 ≤ x) (h1 : x < m) : num (bigE n x) = x := by
  rw [num_bigE, hm, Int.emod_eq_of_lt h0 h1]

theorem drop_take_mid (a b c : List Int) (p n : Nat) (ha : a.length = p) (hb : b.length = n) : ((a ++ (b ++ c)).drop p).take n = b := by
  subst ha hb; simp

theorem bytesE_head {e : En} (hm : e.May) : b1 (bytesE e) 0 = e.kind := by
  unfold bytesE b1
  rcases hm.kind with ⟨h, _⟩ | ⟨h, _⟩ | ⟨h, _⟩ <;> simp [h, bigE]

theorem bytesE_length {e : En} (hm : e.May) : ((bytesE e).length : Int) = sizeK e.kind := by
  unfold bytesE sizeK
  rcases hm.kind with ⟨h, _⟩ | ⟨h, _⟩ | ⟨h, _⟩ <;> simp [h, bigE_length]

theorem bytesE_bytes (e : En) : isBytes (bytesE e) := by
  unfold bytesE
  split
  · exact isBytes_append (bigE_bytes _ _) (bigE_bytes _ _)
  split
  · exact isBytes_append (isBytes_append (isBytes_append (isBytes_append (bigE_bytes _ _) (bigE_bytes _ _)) (bigE_bytes _ _)) (bigE_bytes _ _)) (bigE_bytes _ _)
  · exact isBytes_append (isBytes_append (isBytes_append (bigE_bytes _ _) (bigE_bytes _ _)) (bigE_bytes _ _)) (bigE_bytes _ _)

/-- What was written is read back. -/
theorem entE_bytesE {e : En} (hm : e.May) (ho : e.Ok) : whyE (bytesE e) = 0 ∧ entE (bytesE e) = e := by
  have hh := bytesE_head hm
  have hl := bytesE_length hm
  have ht := hm.time1
  have ht0 := hm.time0
  have h8 : ∀ m : List Int, ((bigE 1 e.kind ++ (bigE 8 e.time ++ m)).drop 1).take 8 = bigE 8 e.time := fun m => drop_take_mid _ _ _ 1 8 (bigE_length _ _) (bigE_length _ _)
  have n8 : num (bigE 8 e.time) = e.time := num_bigE_id 8 _ 18446744073709551616 (by decide) ht0 (by omega)
  rcases hm.kind with ⟨k, hs, ha, hbl⟩ | ⟨k, hb0, hb1⟩ | ⟨k, hb0, hb1, hs⟩
  · have e0 : bytesE e = bigE 1 e.kind ++ (bigE 8 e.time ++ []) := by unfold bytesE; rw [if_pos k, List.append_nil]
    have hn : num (((bytesE e).drop 1).take 8) = e.time := by rw [e0, h8, n8]
    have hw : whyE (bytesE e) = 0 := whyE_of (by rw [hh, hl]) (by rw [hh]; exact .inl k) (by rw [hn]; exact ht)
    refine ⟨hw, ?_⟩
    unfold entE
    rw [if_pos hw, hh, if_pos k, hn]
    obtain ⟨k', t, s, a, b⟩ := e
    simp_all
  · have e0 : bytesE e = bigE 1 e.kind ++ (bigE 8 e.time ++ (bigE 4 e.sub ++ (bigE 4 e.addr ++ bigE 2 e.block))) := by unfold bytesE; rw [if_neg (by omega), if_pos k]; simp
    have hn : num (((bytesE e).drop 1).take 8) = e.time := by rw [e0, h8, n8]
    have hw : whyE (bytesE e) = 0 := whyE_of (by rw [hh, hl]) (by rw [hh]; exact .inr (.inl k)) (by rw [hn]; exact ht)
    have hn9 : num (((bytesE e).drop 9).take 4) = e.sub := by
      rw [e0, ← List.append_assoc, drop_take_mid _ _ _ 9 4 (by simp [bigE_length]) (bigE_length _ _)]
      exact num_bigE_id 4 _ 4294967296 (by decide) ho.sub0 ho.sub1
    have hn13 : num (((bytesE e).drop 13).take 4) = e.addr := by
      rw [e0, ← List.append_assoc, ← List.append_assoc, drop_take_mid _ _ _ 13 4 (by simp [bigE_length]) (bigE_length _ _)]
      exact num_bigE_id 4 _ 4294967296 (by decide) ho.addr0 ho.addr1
    have hn17 : num (((bytesE e).drop 17).take 2) = e.block := by
      rw [e0, ← List.append_nil (bigE 2 e.block), ← List.append_assoc, ← List.append_assoc, ← List.append_assoc, drop_take_mid _ _ _ 17 2 (by simp [bigE_length]) (bigE_length _ _)]
      exact num_bigE_id 2 _ 65536 (by decide) hb0 (by omega)
    refine ⟨hw, ?_⟩
    unfold entE
    rw [if_pos hw, hh, if_neg (by omega), if_pos k, hn, hn9, hn13, hn17]
  · have e0 : bytesE e = bigE 1 e.kind ++ (bigE 8 e.time ++ (bigE 4 e.addr ++ bigE 2 e.block)) := by unfold bytesE; rw [if_neg (by omega), if_neg (by omega)]; simp
    have hn : num (((bytesE e).drop 1).take 8) = e.time := by rw [e0, h8, n8]
    have hw : whyE (bytesE e) = 0 := whyE_of (by rw [hh, hl]) (by rw [hh]; exact .inr (.inr k)) (by rw [hn]; exact ht)
    have hn9 : num (((bytesE e).drop 9).take 4) = e.addr := by
      rw [e0, ← List.append_assoc, drop_take_mid _ _ _ 9 4 (by simp [bigE_length]) (bigE_length _ _)]
      exact num_bigE_id 4 _ 4294967296 (by decide) ho.addr0 ho.addr1
    have hn13 : num (((bytesE e).drop 13).take 2) = e.block := by
      rw [e0, ← List.append_nil (bigE 2 e.block), ← List.append_assoc, ← List.append_assoc, drop_take_mid _ _ _ 13 2 (by simp [bigE_length]) (bigE_length _ _)]
      exact num_bigE_id 2 _ 65536 (by decide) hb0 (by omega)
    refine ⟨hw, ?_⟩
    unfold entE
    rw [if_pos hw, hh, if_neg (by omega), if_neg (by omega), hn, hn9, hn13]
    obtain ⟨k', t, s, a, b⟩ := e
    simp_all

theorem num_part_bd (l : List Int) (hb : isBytes l) (p n : Nat) (m : Int) (hm : (256 : Int) ^ n = m) : 0 ≤ num ((l.drop p).take n) ∧ num ((l.drop p).take n) < m := by
  have h := num_bd _ (isBytes_part l hb p n)
  have hle : ((l.drop p).take n).length ≤ n := by simp; omega
  have h2 := Int.ofNat_le.2 (Nat.pow_le_pow_right (n := 256) (by decide) hle)
  rw [Int.natCast_pow, Int.natCast_pow] at h2
  have h3 : (256 : Int) ^ ((l.drop p).take n).length ≤ 256 ^ n := h2
  omega

theorem bigE_part (l : List Int) (hb : isBytes l) (p n : Nat) (h : p + n ≤ l.length) : bigE n (num ((l.drop p).take n)) = (l.drop p).take n := by
  have := bigE_num _ (isBytes_part l hb p n)
  rwa [show ((l.drop p).take n).length = n by simp; omega] at this

theorem entE_ok (l : List Int) (hb : isBytes l) : (entE l).Ok := by
  have h0 := b1_bd l hb 0
  have h8 := num_part_bd l hb 1 8 18446744073709551616 (by decide)
  have h9 := num_part_bd l hb 9 4 4294967296 (by decide)
  have h13 := num_part_bd l hb 13 4 4294967296 (by decide)
  have h132 := num_part_bd l hb 13 2 65536 (by decide)
  have h17 := num_part_bd l hb 17 2 65536 (by decide)
  unfold entE
  split
  · rename_i hw
    have ht := (whyE_zero hw).2.2
    split
    · constructor <;> dsimp only <;> omega
    split
    · constructor <;> dsimp only <;> omega
    · constructor <;> dsimp only <;> omega
  · constructor <;> decide

theorem take_cons1 (l : List Int) (h : 1 ≤ l.length) : l.take 1 = [b1 l 0] := by
  cases l with
  | nil => simp at h
  | cons a l => simp [b1]

/-- What was read is an entry that may be, and its bytes are those that were read. -/
theorem bytesE_entE {l : List Int} (hb : isBytes l) (hw : whyE l = 0) : (entE l).May ∧ bytesE (entE l) = l := by
  obtain ⟨hl, hk, ht⟩ := whyE_zero hw
  have h8 := num_part_bd l hb 1 8 18446744073709551616 (by decide)
  have h132 := num_part_bd l hb 13 2 65536 (by decide)
  have h17 := num_part_bd l hb 17 2 65536 (by decide)
  have g0 := b1_bd l hb 0
  have split3 : ∀ (p q : Nat), ∀ m : List Int, p + q ≤ m.length → m.take (p + q) = m.take p ++ (m.drop p).take q := by
    intro p q m _; rw [List.take_add]
  rcases hk with k | k | k
  · have hlen : l.length = 9 := by rw [k] at hl; simp [sizeK] at hl; omega
    have e : entE l = ⟨b1 l 0, num ((l.drop 1).take 8), 0, 0, 0⟩ := by unfold entE; rw [if_pos hw, if_pos k]
    rw [e]
    refine ⟨⟨h8.1, ht, .inl ⟨k, rfl, rfl, rfl⟩⟩, ?_⟩
    unfold bytesE
    dsimp only
    rw [if_pos k, bigE_one _ g0.1 g0.2, bigE_part l hb 1 8 (by omega), ← take_cons1 l (by omega), ← split3 1 8 l (by omega)]
    rw [List.take_of_length_le (by omega)]
  · have hlen : l.length = 19 := by rw [k] at hl; simp [sizeK] at hl; omega
    have e : entE l = ⟨b1 l 0, num ((l.drop 1).take 8), num ((l.drop 9).take 4), num ((l.drop 13).take 4), num ((l.drop 17).take 2)⟩ := by unfold entE; rw [if_pos hw, if_neg (by omega), if_pos k]
    rw [e]
    refine ⟨⟨h8.1, ht, .inr (.inl ⟨k, h17.1, by show num _ ≤ _; omega⟩)⟩, ?_⟩
    unfold bytesE
    dsimp only
    rw [if_neg (by omega), if_pos k, bigE_one _ g0.1 g0.2, bigE_part l hb 1 8 (by omega), bigE_part l hb 9 4 (by omega), bigE_part l hb 13 4 (by omega), bigE_part l hb 17 2 (by omega), ← take_cons1 l (by omega), ← split3 1 8 l (by omega), ← split3 9 4 l (by omega), ← split3 13 4 l (by omega), ← split3 17 2 l (by omega)]
    rw [List.take_of_length_le (by omega)]
  · have hlen : l.length = 15 := by rw [k] at hl; simp [sizeK] at hl; omega
    have e : entE l = ⟨b1 l 0, num ((l.drop 1).take 8), 0, num ((l.drop 9).take 4), num ((l.drop 13).take 2)⟩ := by unfold entE; rw [if_pos hw, if_neg (by omega), if_neg (by omega)]
    rw [e]
    refine ⟨⟨h8.1, ht, .inr (.inr ⟨k, h132.1, by show num _ ≤ _; omega, rfl⟩)⟩, ?_⟩
    unfold bytesE
    dsimp only
    rw [if_neg (by omega), if_neg (by omega), bigE_one _ g0.1 g0.2, bigE_part l hb 1 8 (by omega), bigE_part l hb 9 4 (by omega), bigE_part l hb 13 2 (by omega), ← take_cons1 l (by omega), ← split3 1 8 l (by omega), ← split3 9 4 l (by omega), ← split3 13 2 l (by omega)]
    rw [List.take_of_length_le (by omega)]

/-- A byte more is too long. -/
theorem whyE_more {l : List Int} (hw : whyE l = 0) (c : Int) : whyE (l ++ [c]) = 3 := by
  obtain ⟨hl, hk, ht⟩ := whyE_zero hw
  have hs : sizeK (b1 l 0) ≠ 0 := by unfold sizeK; rcases hk with h | h | h <;> rw [h] <;> decide
  have hp : 0 < l.length := by
    rcases Nat.eq_zero_or_pos l.length with h | h
    · omega
    · exact h
  have hh : b1 (l ++ [c]) 0 = b1 l 0 := getD_append_left l [c] 0 hp
  unfold whyE
  rw [hh, List.length_append, List.length_singleton, if_neg (by omega), if_neg hs, if_neg (by omega), if_pos (by omega)]

/-- A byte less is too short. -/
theorem whyE_less {l : List Int} (hw : whyE l = 0) : whyE (l.take (l.length - 1)) = 2 := by
  obtain ⟨hl, hk, ht⟩ := whyE_zero hw
  have hs : 9 ≤ sizeK (b1 l 0) := by unfold sizeK; rcases hk with h | h | h <;> rw [h] <;> decide
  have hh : b1 (l.take (l.length - 1)) 0 = b1 l 0 := by
    unfold b1; simp only [List.getD, List.getElem?_take]; rw [if_pos (by omega)]
  have hll : (l.take (l.length - 1)).length = l.length - 1 := by rw [List.length_take]; omega
  unfold whyE
  rw [hh, hll, if_neg (by omega), if_neg (by omega), if_pos (by omega)]

end Go.Proofs.YtafkkehcacdodaaGreat
