/- Records in bytes: a frame, what is scanned, where the next one goes. Plain mathematics. -/
import Derived.Test.YtafkkehcacdodaaGreatRcrc
import Derived.Test.YtafkkehcacdodaaGreatSecNum
import Derived.Test.YtafkkehcacdodaaGreatPut
set_option maxRecDepth 100000
namespace Go.Proofs.YtafkkehcacdodaaGreat
open Go.RowKit

theorem crcV_bd (l : List Int) (h : isBytes l) : 0 ≤ crcV l ∧ crcV l < 4294967296 := by
  have h1 := crcL_lt 4294967295 l (by decide) h
  have e : IntKind.u32.max = ((4294967295 : Nat) : Int) := by decide
  unfold crcV
  rw [e, u32_xor_nat' _ _ (by decide) h1]
  have : 4294967295 ^^^ crcL 4294967295 l < 4294967296 := Nat.xor_lt_two_pow (n := 32) (by decide) h1
  omega

/-- Four bytes of a number, the highest first. -/
def four (x : Int) : List Int := [x / 16777216 % 256, x / 65536 % 256, x / 256 % 256, x % 256]

theorem four_bytes (x : Int) : isBytes (four x) := by
  intro z hz
  simp only [four, List.mem_cons, List.not_mem_nil, or_false] at hz
  rcases hz with rfl | rfl | rfl | rfl <;> omega

theorem num_four (x : Int) (h0 : 0 ≤ x) (h1 : x < 4294967296) : num (four x) = x := by
  simp only [num, four, List.foldl_cons, List.foldl_nil]
  omega

/-- A record's frame. -/
def frameB (b : List Int) : List Int := 90 :: (b.length : Int) :: (b ++ (four (crcV b) ++ [165]))

theorem frameB_len (b : List Int) : (frameB b).length = b.length + 7 := by simp [frameB, four]

theorem frameB_bytes (b : List Int) (h : isBytes b) (hl : b.length ≤ 56) : isBytes (frameB b) := by
  intro z hz
  simp only [frameB, List.mem_cons, List.mem_append, List.not_mem_nil, or_false] at hz
  rcases hz with rfl | rfl | hz | hz | rfl
  · omega
  · omega
  · exact h z hz
  · exact four_bytes _ z hz
  · omega

/-- Do bytes begin with a frame? -/
def okB (b : List Int) : Bool := decide (2 ≤ b.length ∧ b.getD 0 0 = 90 ∧ 1 ≤ b.getD 1 0 ∧ b.getD 1 0 ≤ 56 ∧ (b.getD 1 0).toNat + 7 ≤ b.length ∧ b.getD ((b.getD 1 0).toNat + 6) 0 = 165 ∧
  num ((b.drop ((b.getD 1 0).toNat + 2)).take 4) = crcV ((b.drop 2).take (b.getD 1 0).toNat))

/-- The body of the frame that bytes begin with. -/
def bodyB (b : List Int) : List Int := (b.drop 2).take (b.getD 1 0).toNat

theorem bodyB_len {b : List Int} (h : okB b = true) : (bodyB b).length = (b.getD 1 0).toNat ∧ 1 ≤ (bodyB b).length ∧ (bodyB b).length ≤ 56 ∧ (bodyB b).length + 7 ≤ b.length := by
  obtain ⟨_, _, h1, h2, h3, _, _⟩ := of_decide_eq_true h
  have : (bodyB b).length = (b.getD 1 0).toNat := by simp only [bodyB, List.length_take, List.length_drop]; omega
  omega

theorem bodyB_bytes {b : List Int} (h : isBytes b) : isBytes (bodyB b) := isBytes_take (isBytes_drop h 2) _

def scanN : Nat → List Int → List (List Int)
  | 0, _ => []
  | f + 1, b => if okB b then bodyB b :: scanN f (b.drop ((bodyB b).length + 7)) else []

/-- The bodies of the frames that bytes begin with. -/
def scanB (b : List Int) : List (List Int) := scanN b.length b

theorem okB_nil {b : List Int} (h : b.length < 2) : okB b = false := by
  unfold okB; simp; omega

theorem scanN_more : ∀ (f : Nat) (b : List Int), b.length ≤ f → scanN f b = scanN b.length b := by
  intro f
  induction f using Nat.strongRecOn with
  | _ f ih =>
    intro b hb
    cases f with
    | zero =>
      have : b.length = 0 := by omega
      rw [this]
    | succ f =>
      by_cases hk : okB b = true
      · have hl := bodyB_len hk
        have hd : (b.drop ((bodyB b).length + 7)).length + 8 ≤ b.length := by rw [List.length_drop]; omega
        obtain ⟨m, hm⟩ : ∃ m, b.length = m + 1 := ⟨b.length - 1, by omega⟩
        have e1 := ih f (by omega) (b.drop ((bodyB b).length + 7)) (by omega)
        have e2 : scanN m (b.drop ((bodyB b).length + 7)) = scanN (b.drop ((bodyB b).length + 7)).length (b.drop ((bodyB b).length + 7)) := by
          by_cases hmf : m < f + 1
          · exact ih m (by omega) _ (by omega)
          · have : m = f := by omega
            rw [this]; exact e1
        rw [hm]
        simp only [scanN, hk, if_true]
        rw [e1, e2]
      · have hk' : okB b = false := by simpa using hk
        cases hm : b.length with
        | zero => simp [scanN, hk']
        | succ m => simp [scanN, hk']

theorem scanB_yes {b : List Int} (h : okB b = true) : scanB b = bodyB b :: scanB (b.drop ((bodyB b).length + 7)) := by
  have hl := bodyB_len h
  obtain ⟨m, hm⟩ : ∃ m, b.length = m + 1 := ⟨b.length - 1, by omega⟩
  unfold scanB
  rw [hm]
  simp only [scanN, h, if_true]
  rw [scanN_more m _ (by rw [List.length_drop]; omega)]

theorem scanB_no {b : List Int} (h : okB b = false) : scanB b = [] := by
  unfold scanB
  cases b.length <;> simp [scanN, h]

theorem scanB_len : ∀ (f : Nat) (b : List Int), b.length ≤ f → (scanB b).length * 8 ≤ b.length := by
  intro f
  induction f with
  | zero =>
    intro b hb
    rw [scanB_no (okB_nil (by omega))]
    simp
  | succ f ih =>
    intro b hb
    by_cases hk : okB b = true
    · have hl := bodyB_len hk
      have := ih (b.drop ((bodyB b).length + 7)) (by rw [List.length_drop]; omega)
      rw [List.length_drop] at this
      rw [scanB_yes hk, List.length_cons]
      omega
    · rw [scanB_no (by simpa using hk)]; simp

theorem scanB_all : ∀ (f : Nat) (b : List Int), b.length ≤ f → isBytes b → ∀ x ∈ scanB b, isBytes x ∧ 1 ≤ x.length ∧ x.length ≤ 56 := by
  intro f
  induction f with
  | zero =>
    intro b hb _ x hx
    rw [scanB_no (okB_nil (by omega))] at hx
    cases hx
  | succ f ih =>
    intro b hb hbb x hx
    by_cases hk : okB b = true
    · have hl := bodyB_len hk
      rw [scanB_yes hk, List.mem_cons] at hx
      rcases hx with rfl | hx
      · exact ⟨bodyB_bytes hbb, hl.2.1, hl.2.2.1⟩
      · exact ih _ (by rw [List.length_drop]; omega) (isBytes_drop hbb _) x hx
    · rw [scanB_no (by simpa using hk)] at hx
      cases hx

theorem getD_app_left (l m : List Int) (i : Nat) (h : i < l.length) : (l ++ m).getD i 0 = l.getD i 0 := by
  simp only [List.getD, List.getElem?_append_left h]

theorem getD_app_right (l m : List Int) (i : Nat) (h : l.length ≤ i) : (l ++ m).getD i 0 = m.getD (i - l.length) 0 := by
  simp only [List.getD, List.getElem?_append_right h]

/-- A frame is found, whatever stands behind. -/
theorem ok_frame (b more : List Int) (hb : isBytes b) (h1 : 1 ≤ b.length) (h2 : b.length ≤ 56) : okB (frameB b ++ more) = true ∧ bodyB (frameB b ++ more) = b := by
  have hc := crcV_bd b hb
  have hl := frameB_len b
  have e1 : (frameB b ++ more).getD 1 0 = (b.length : Int) := rfl
  have e0 : (frameB b ++ more).getD 0 0 = 90 := rfl
  have hd : (frameB b ++ more).drop 2 = b ++ (four (crcV b) ++ ([165] ++ more)) := by simp [frameB]
  have hbody : bodyB (frameB b ++ more) = b := by
    unfold bodyB
    rw [hd, e1, Int.toNat_natCast, List.take_left]
  refine ⟨?_, hbody⟩
  have hb' : ((frameB b ++ more).drop 2).take b.length = b := by rw [hd, List.take_left]
  have h4 : ((frameB b ++ more).drop (b.length + 2)).take 4 = four (crcV b) := by
    rw [show b.length + 2 = 2 + b.length by omega, ← List.drop_drop, hd, List.drop_left]
    rfl
  have h165 : (frameB b ++ more).getD (b.length + 6) 0 = 165 := by
    have : (frameB b ++ more) = (90 :: (b.length : Int) :: (b ++ four (crcV b))) ++ ([165] ++ more) := by simp [frameB]
    rw [this, getD_app_right _ _ _ (by simp [four])]
    simp [four]
  unfold okB
  rw [e1, Int.toNat_natCast, hb', h4, num_four _ hc.1 hc.2, h165, e0]
  simp only [List.length_append, hl]
  simp
  omega

theorem scan_frame (b more : List Int) (hb : isBytes b) (h1 : 1 ≤ b.length) (h2 : b.length ≤ 56) : scanB (frameB b ++ more) = b :: scanB more := by
  obtain ⟨e1, e2⟩ := ok_frame b more hb h1 h2
  rw [scanB_yes e1, e2, ← frameB_len b, List.drop_left]

/-- A strand in numbers: the place, the records and where they stand. -/
structure Sd where
  pos : Nat
  used : Nat
  recs : List (Nat × List Int)

/-- A strand, when so many sectors have been gone through. -/
def openK (now : List Int) : Nat → Sd
  | 0 => ⟨0, 0, []⟩
  | k + 1 => ⟨if allz (sec now k) then (openK now k).pos else k + 1, 0, (openK now k).recs ++ (scanB (sec now k)).map fun b => (k, b)⟩
def openT (s : St) : Sd := openK s.now s.n

def Sd.leave (t : Sd) : Sd := ⟨t.pos + 1, 0, t.recs⟩
def withB (sc : List Int) (used : Nat) (f : List Int) : List Int := sc.take used ++ f ++ zeros (64 - used - f.length)

/-- The place that an Append goes to. -/
def Sd.fit (t : Sd) (b : List Int) : Sd := if 64 < t.used + (b.length + 7) then t.leave else t
def Sd.added (t : Sd) (b : List Int) : Sd := ⟨t.pos, t.used + (b.length + 7), t.recs ++ [(t.pos, b)]⟩
/-- What a frame is refused for. -/
def frameE (b : List Int) : Int := if b.length = 0 then 1 else if 56 < b.length then 3 else 0
def appE (s : St) (t : Sd) (b : List Int) : Int := if frameE b ≠ 0 then frameE b else if s.n ≤ (t.fit b).pos then 6 else errC s.out
def appS (s : St) (t : Sd) (b : List Int) : St := if frameE b ≠ 0 then s else if s.n ≤ (t.fit b).pos then s else s.write (t.fit b).pos (withB (sec s.now (t.fit b).pos) (t.fit b).used (frameB b))
def appT (s : St) (t : Sd) (b : List Int) : Sd := if frameE b ≠ 0 then t else if s.n ≤ (t.fit b).pos then t.fit b else if errC s.out = 0 then (t.fit b).added b else (t.fit b).leave
def synT (s : St) (t : Sd) : Sd := if errC s.out ≠ 0 ∧ 0 < t.used then t.leave else t

/-- What holds of a strand on a disk of n sectors. -/
structure Sd.Ok (t : Sd) (n : Nat) : Prop where
  pn : t.pos ≤ n
  us : t.used ≤ 64
  full : t.pos = n → t.used = 0
  rc : ∀ x ∈ t.recs, x.1 < n ∧ isBytes x.2 ∧ 1 ≤ x.2.length ∧ x.2.length ≤ 56

theorem err_cases (c : Int) : errC c = 0 ∨ errC c = 8 := by unfold errC; split <;> simp

theorem openK_ok (now : List Int) (n : Nat) (hl : now.length = n * 64) (hb : isBytes now) : ∀ k, k ≤ n → (openK now k).pos ≤ k ∧ (openK now k).used = 0 ∧ (∀ x ∈ (openK now k).recs, x.1 < k ∧ isBytes x.2 ∧ 1 ≤ x.2.length ∧ x.2.length ≤ 56) ∧ (openK now k).recs.length ≤ k * 8 := by
  intro k
  induction k with
  | zero => intro _; exact ⟨Nat.le_refl _, rfl, (fun x hx => by cases hx), Nat.le_refl _⟩
  | succ k ih =>
    intro hk
    obtain ⟨h1, h2, h3, h4⟩ := ih (by omega)
    have hs := sec_len hl (show k < n by omega)
    refine ⟨?_, rfl, ?_, ?_⟩
    · simp only [openK]; split <;> omega
    · intro x hx
      simp only [openK, List.mem_append, List.mem_map] at hx
      rcases hx with hx | ⟨b, hx, rfl⟩
      · have := h3 x hx; exact ⟨by omega, this.2⟩
      · exact ⟨by simp, scanB_all 64 _ (by omega) (sec_bytes hb k) b hx⟩
    · have := scanB_len 64 (sec now k) (by omega)
      simp only [openK, List.length_append, List.length_map]
      omega

theorem openT_ok {s : St} (h : s.Ok) : (openT s).Ok s.n ∧ (openT s).recs.length ≤ s.n * 8 ∧ (openT s).used = 0 := by
  obtain ⟨h1, h2, h3, h4⟩ := openK_ok s.now s.n h.nl h.nb s.n (Nat.le_refl _)
  exact ⟨⟨h1, by unfold openT; omega, fun _ => h2, h3⟩, h4, h2⟩

theorem Sd.Ok.fit {t : Sd} {n : Nat} (h : t.Ok n) (b : List Int) (hb : frameE b = 0) : (t.fit b).Ok n ∧ (t.fit b).used + (b.length + 7) ≤ 64 ∧ (t.fit b).recs = t.recs := by
  have hl : 1 ≤ b.length ∧ b.length ≤ 56 := by unfold frameE at hb; split at hb; · cases hb
                                               · split at hb; · cases hb
                                                 · omega
  unfold Sd.fit
  split
  · have hp : t.pos ≠ n := fun e => by have := h.full e; omega
    exact ⟨⟨by have := h.pn; simp [Sd.leave]; omega, by simp [Sd.leave], fun _ => rfl, h.rc⟩, by simp [Sd.leave]; omega, rfl⟩
  · exact ⟨h, by omega, rfl⟩

theorem Sd.Ok.leave {t : Sd} {n : Nat} (h : t.Ok n) (hp : t.pos < n) : t.leave.Ok n := ⟨by simp [Sd.leave]; omega, by simp [Sd.leave], fun _ => rfl, h.rc⟩

theorem appT_ok {s : St} {t : Sd} (h : t.Ok s.n) (b : List Int) (hb : isBytes b) : (appT s t b).Ok s.n ∧ (appT s t b).recs.length ≤ t.recs.length + 1 := by
  unfold appT
  split
  · exact ⟨h, by omega⟩
  · rename_i hE
    have hE' : frameE b = 0 := by simpa using hE
    obtain ⟨f1, f2, f3⟩ := h.fit b hE'
    have hl : 1 ≤ b.length ∧ b.length ≤ 56 := by unfold frameE at hE'; split at hE'; · cases hE'
                                                 · split at hE'; · cases hE'
                                                   · omega
    split
    · exact ⟨f1, by rw [f3]; omega⟩
    · rename_i hn
      split
      · refine ⟨⟨by simp [Sd.added]; omega, by simp [Sd.added]; omega, fun e => by simp [Sd.added] at e; omega, ?_⟩, by simp [Sd.added, f3]⟩
        intro x hx
        simp only [Sd.added, List.mem_append, List.mem_singleton] at hx
        rcases hx with hx | rfl
        · exact f1.rc x hx
        · exact ⟨by simp; omega, hb, hl⟩
      · exact ⟨f1.leave (by omega), by simp [Sd.leave, f3]⟩

theorem synT_ok {s : St} {t : Sd} (h : t.Ok s.n) : (synT s t).Ok s.n ∧ (synT s t).recs = t.recs := by
  unfold synT
  split
  · rename_i hu
    have hp : t.pos ≠ s.n := fun e => by have := h.full e; omega
    exact ⟨h.leave (by have := h.pn; omega), rfl⟩
  · exact ⟨h, rfl⟩

theorem withB_len (sc : List Int) (used : Nat) (f : List Int) (h : sc.length = 64) (hu : used + f.length ≤ 64) : (withB sc used f).length = 64 := by
  simp [withB, zeros]; omega

theorem withB_bytes (sc : List Int) (used : Nat) (f : List Int) (h : isBytes sc) (hf : isBytes f) : isBytes (withB sc used f) :=
  isBytes_append (isBytes_append (isBytes_take h _) hf) (isBytes_zeros _)

end Go.Proofs.YtafkkehcacdodaaGreat
