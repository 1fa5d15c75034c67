/- Plain mathematics: the bytes of a datagram of IPv4. No program in sight. -/
import Derived.Test.YtdejjokgchbgnaaNum
import Derived.Test.YtdejjokgchbgnaaLay
set_option maxRecDepth 100000
namespace Go.Proofs.Ytdejjokgchbgnaa

structure Dg where
  tos : Int
  id : Int
  df : Bool
  mf : Bool
  off : Int
  ttl : Int
  proto : Int
  src : Int
  dst : Int
  opts : List Int
  body : List Int

def Dg.zero : Dg := ⟨0, 0, false, false, 0, 0, 0, 0, 0, [], []⟩

/-- What a Go value may hold. -/
structure Dg.Ok (p : Dg) : Prop where
  src0 : 0 ≤ p.src
  src1 : p.src < 4294967296
  dst0 : 0 ≤ p.dst
  dst1 : p.dst < 4294967296
  opts : isBytes p.opts
  body : isBytes p.body

/-- How long the header is said to be. -/
def hdOf (l : List Int) : Int := b1 l 0 % 16 * 4

def parseE (l : List Int) : Int :=
  if 2048 < l.length then 3
  else if l.length < 20 then 2
  else if b1 l 0 / 16 ≠ 4 ∨ hdOf l < 20 then 4
  else if (l.length : Int) < hdOf l then 2
  else if w2 l 2 < hdOf l ∨ 32768 ≤ w2 l 6 then 4
  else if (l.length : Int) < w2 l 2 then 2
  else if fold16 (ws (l.take (hdOf l).toNat)) ≠ 65535 then 5
  else 0

/-- What parseE says where nothing is wrong. -/
structure Good (l : List Int) : Prop where
  a : l.length ≤ 2048
  b : 20 ≤ l.length
  c : b1 l 0 / 16 = 4
  d : 20 ≤ hdOf l
  e : hdOf l ≤ l.length
  f : hdOf l ≤ w2 l 2
  g : w2 l 6 < 32768
  h : w2 l 2 ≤ l.length
  i : fold16 (ws (l.take (hdOf l).toNat)) = 65535

theorem good_of (l : List Int) (h : parseE l = 0) : Good l := by
  unfold parseE at h
  split at h; · omega
  split at h; · omega
  split at h; · omega
  split at h; · omega
  split at h; · omega
  split at h; · omega
  split at h
  · omega
  · constructor <;> first | omega | (rename_i q; simpa using q)

theorem parse_good (l : List Int) (g : Good l) : parseE l = 0 := by
  obtain ⟨a, b, c, d, e, f, gg, h, i⟩ := g
  unfold parseE
  rw [if_neg (by omega), if_neg (by omega), if_neg (by omega), if_neg (by omega), if_neg (by omega), if_neg (by omega), if_neg (by simpa using i)]

def bit (x : Int) (n : Int) : Bool := decide (x / n % 2 = 1)

def dgOf (l : List Int) : Dg :=
  { tos := b1 l 1, id := w2 l 4, df := bit (w2 l 6) 16384, mf := bit (w2 l 6) 8192, off := w2 l 6 % 8192, ttl := b1 l 8, proto := b1 l 9, src := w4 l 12, dst := w4 l 16,
    opts := (l.drop 20).take ((hdOf l).toNat - 20), body := (l.drop (hdOf l).toNat).take ((w2 l 2).toNat - (hdOf l).toNat) }

def totalI (p : Dg) : Int := 20 + p.opts.length + p.body.length


def buildE (p : Dg) : Int :=
  if ¬ inB p.tos 255 then 1
  else if ¬ inB p.ttl 255 then 1
  else if ¬ inB p.proto 255 then 1
  else if ¬ inB p.id 65535 then 1
  else if ¬ inB p.off 8191 then 1
  else if 40 < p.opts.length then 1
  else if p.opts.length % 4 ≠ 0 then 1
  else if 2048 < totalI p then 3
  else 0

structure Fits (p : Dg) : Prop where
  tos : inB p.tos 255
  ttl : inB p.ttl 255
  proto : inB p.proto 255
  id : inB p.id 65535
  off : inB p.off 8191
  o40 : p.opts.length ≤ 40
  o4 : p.opts.length % 4 = 0
  all : totalI p ≤ 2048

theorem fits_of (p : Dg) (h : buildE p = 0) : Fits p := by
  unfold buildE at h
  split at h; · omega
  split at h; · omega
  split at h; · omega
  split at h; · omega
  split at h; · omega
  split at h; · omega
  split at h; · omega
  split at h; · omega
  constructor <;> first | omega | (apply Decidable.of_not_not; assumption)

theorem build_fits (p : Dg) (f : Fits p) : buildE p = 0 := by
  obtain ⟨a, b, c, d, e, f, g, h⟩ := f
  unfold buildE
  rw [if_neg (by simpa using a), if_neg (by simpa using b), if_neg (by simpa using c), if_neg (by simpa using d), if_neg (by simpa using e), if_neg (by omega), if_neg (by omega), if_neg (by omega)]

def flagI (s : Bool) (x : Int) : Int := if s then x else 0

def flagsI (p : Dg) : Int := flagI p.df 16384 + flagI p.mf 8192 + p.off

/-- The header, with c for the check. -/
def headB (p : Dg) (c : Int) : List Int :=
  (64 + (20 + (p.opts.length : Int)) / 4) % 256 :: p.tos % 256 :: totalI p / 256 % 256 :: totalI p % 256 :: p.id / 256 % 256 :: p.id % 256 :: flagsI p / 256 % 256 :: flagsI p % 256 ::
  p.ttl % 256 :: p.proto % 256 :: c / 256 % 256 :: c % 256 ::
  p.src / 256 / 256 / 256 % 256 :: p.src / 256 / 256 % 256 :: p.src / 256 % 256 :: p.src % 256 ::
  p.dst / 256 / 256 / 256 % 256 :: p.dst / 256 / 256 % 256 :: p.dst / 256 % 256 :: p.dst % 256 :: p.opts

def checkI (p : Dg) : Int := turn16 (fold16 (ws (headB p 0)))

def built (p : Dg) : List Int := headB p (checkI p) ++ p.body

theorem head_length (p : Dg) (c : Int) : (headB p c).length = 20 + p.opts.length := by simp [headB]; omega

theorem built_length (p : Dg) : ((built p).length : Int) = totalI p := by
  unfold built totalI; rw [List.length_append, head_length]; omega

theorem check_bd (p : Dg) : 0 ≤ checkI p ∧ checkI p ≤ 65535 := by
  unfold checkI; rw [turn_fold]; have := fold16_bd (ws (headB p 0)); omega

theorem head_bytes (p : Dg) (c : Int) (h : isBytes p.opts) : isBytes (headB p c) := by
  intro z hz
  simp only [headB, List.mem_cons] at hz
  rcases hz with rfl | rfl | rfl | rfl | rfl | rfl | rfl | rfl | rfl | rfl | rfl | rfl | rfl | rfl | rfl | rfl | rfl | rfl | rfl | rfl | hz
  all_goals first | omega | exact h z hz

theorem built_bytes (p : Dg) (k : p.Ok) : isBytes (built p) := isBytes_append (head_bytes p _ k.opts) k.body

theorem ws_head (p : Dg) (c : Int) (h0 : 0 ≤ c) (h1 : c ≤ 65535) : ws (headB p c) = ws (headB p 0) + c := by
  simp only [headB, ws, wsAux]
  simp
  omega

theorem ws_head_pos (p : Dg) (h : isBytes p.opts) (hl : p.opts.length ≤ 40) : 0 < ws (headB p 0) := by
  have hb := head_bytes p 0 h
  unfold headB at hb ⊢
  generalize hR : (p.tos % 256 :: _ : List Int) = R at *
  have hR' : isBytes R := fun z hz => hb z (List.mem_cons_of_mem _ hz)
  have := wsAux_bd 1 R hR'
  simp only [ws, wsAux]
  simp
  omega

theorem sum_head (p : Dg) (h : isBytes p.opts) (hl : p.opts.length ≤ 40) : fold16 (ws (headB p (checkI p))) = 65535 := by
  have hp := ws_head_pos p h hl
  have hc := check_bd p
  rw [ws_head p _ hc.1 hc.2]
  unfold checkI
  rw [turn_fold]
  unfold fold16
  split <;> split <;> omega

theorem getD_head (p : Dg) (c : Int) (m : List Int) (k : Nat) (hk : k < 20) : (headB p c ++ m).getD k 0 = (headB p c).getD k 0 := by
  have : k < (headB p c).length := by rw [head_length]; omega
  simp [List.getD, List.getElem?_append_left this]

theorem headLen (p : Dg) (c : Int) (m : List Int) (f : Fits p) : hdOf (headB p c ++ m) = 20 + p.opts.length := by
  obtain ⟨_, _, _, _, _, h40, h4, _⟩ := f
  show (64 + (20 + (p.opts.length : Int)) / 4) % 256 % 16 * 4 = _
  omega

theorem w2_total (p : Dg) (c : Int) (m : List Int) (f : Fits p) : w2 (headB p c ++ m) 2 = totalI p := by
  have := f.all
  show totalI p / 256 % 256 * 256 + totalI p % 256 = _
  have : 0 ≤ totalI p := by unfold totalI; omega
  omega

theorem flags_bd (p : Dg) (f : Fits p) : 0 ≤ flagsI p ∧ flagsI p < 32768 := by
  have := f.off
  unfold inB at this
  unfold flagsI flagI
  split <;> split <;> omega

theorem w2_flags (p : Dg) (c : Int) (m : List Int) (f : Fits p) : w2 (headB p c ++ m) 6 = flagsI p := by
  have := flags_bd p f
  show flagsI p / 256 % 256 * 256 + flagsI p % 256 = _
  omega

/-- What was built is read back, whatever stands behind. -/
theorem good_built (p : Dg) (k : p.Ok) (f : Fits p) (m : List Int) (hm : (built p ++ m).length ≤ 2048) : Good (built p ++ m) := by
  have e : built p ++ m = headB p (checkI p) ++ (p.body ++ m) := by unfold built; rw [List.append_assoc]
  have hl : ((built p ++ m).length : Int) = totalI p + m.length := by rw [List.length_append, Int.natCast_add, built_length]
  have h1 := headLen p (checkI p) (p.body ++ m) f
  have h2 := w2_total p (checkI p) (p.body ++ m) f
  have h3 := w2_flags p (checkI p) (p.body ++ m) f
  have h4 := flags_bd p f
  have ht : totalI p = 20 + p.opts.length + p.body.length := rfl
  have h0 : b1 (built p ++ m) 0 / 16 = 4 := by
    rw [e]
    show (64 + (20 + (p.opts.length : Int)) / 4) % 256 / 16 = 4
    have := f.o40
    omega
  rw [← e] at h1 h2 h3
  refine ⟨hm, by omega, h0, by omega, by omega, by omega, by omega, by omega, ?_⟩
  have hn : (hdOf (built p ++ m)).toNat = (headB p (checkI p)).length := by rw [h1, head_length]; omega
  rw [hn, e, List.take_left]
  exact sum_head p k.opts f.o40

theorem dg_built (p : Dg) (k : p.Ok) (f : Fits p) (m : List Int) : dgOf (built p ++ m) = p := by
  have e : built p ++ m = headB p (checkI p) ++ (p.body ++ m) := by unfold built; rw [List.append_assoc]
  have h1 := headLen p (checkI p) (p.body ++ m) f
  have h2 := w2_total p (checkI p) (p.body ++ m) f
  have h3 := w2_flags p (checkI p) (p.body ++ m) f
  have h4 := flags_bd p f
  have ht : totalI p = 20 + p.opts.length + p.body.length := rfl
  have q1 := f.tos
  have q2 := f.ttl
  have q3 := f.proto
  have q4 := f.id
  have q5 := f.off
  unfold inB at q1 q2 q3 q4 q5
  have k1 := k.src0
  have k2 := k.src1
  have k3 := k.dst0
  have k4 := k.dst1
  rw [e]
  unfold dgOf
  rw [h1, h2, h3]
  have e1 : b1 (headB p (checkI p) ++ (p.body ++ m)) 1 = p.tos := by show p.tos % 256 = _; omega
  have e2 : w2 (headB p (checkI p) ++ (p.body ++ m)) 4 = p.id := by show p.id / 256 % 256 * 256 + p.id % 256 = _; omega
  have e3 : b1 (headB p (checkI p) ++ (p.body ++ m)) 8 = p.ttl := by show p.ttl % 256 = _; omega
  have e4 : b1 (headB p (checkI p) ++ (p.body ++ m)) 9 = p.proto := by show p.proto % 256 = _; omega
  have e5 : w4 (headB p (checkI p) ++ (p.body ++ m)) 12 = p.src := by
    show ((p.src / 256 / 256 / 256 % 256 * 256 + p.src / 256 / 256 % 256) * 256 + p.src / 256 % 256) * 256 + p.src % 256 = _; omega
  have e6 : w4 (headB p (checkI p) ++ (p.body ++ m)) 16 = p.dst := by
    show ((p.dst / 256 / 256 / 256 % 256 * 256 + p.dst / 256 / 256 % 256) * 256 + p.dst / 256 % 256) * 256 + p.dst % 256 = _; omega
  rw [e1, e2, e3, e4, e5, e6]
  have e7 : ((headB p (checkI p) ++ (p.body ++ m)).drop 20).take ((20 + (p.opts.length : Int)).toNat - 20) = p.opts := by
    have : (headB p (checkI p) ++ (p.body ++ m)).drop 20 = p.opts ++ (p.body ++ m) := by simp [headB]
    rw [this, show (20 + (p.opts.length : Int)).toNat - 20 = p.opts.length by omega, List.take_left]
  have e8 : ((headB p (checkI p) ++ (p.body ++ m)).drop (20 + (p.opts.length : Int)).toNat).take ((totalI p).toNat - (20 + (p.opts.length : Int)).toNat) = p.body := by
    have hn : (20 + (p.opts.length : Int)).toNat = (headB p (checkI p)).length := by rw [head_length]; omega
    have hn2 : (totalI p).toNat - (headB p (checkI p)).length = p.body.length := by rw [head_length, ht]; omega
    rw [hn, List.drop_left, hn2, List.take_left]
  rw [e7, e8]
  have e9 : bit (flagsI p) 16384 = p.df := by unfold bit flagsI flagI; cases p.df <;> cases p.mf <;> simp <;> omega
  have e10 : bit (flagsI p) 8192 = p.mf := by unfold bit flagsI flagI; cases p.df <;> cases p.mf <;> simp <;> omega
  have e11 : flagsI p % 8192 = p.off := by unfold flagsI flagI; split <;> split <;> omega
  rw [e9, e10, e11]
end Go.Proofs.Ytdejjokgchbgnaa
