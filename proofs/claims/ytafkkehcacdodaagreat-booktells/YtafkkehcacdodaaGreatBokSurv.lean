/- What holds of a strand's sectors from a floor on, while it runs: below the floor nothing is written any more. Plain mathematics. -/
import Derived.Test.YtafkkehcacdodaaGreatStrSurvRun
import Derived.Test.YtafkkehcacdodaaGreatBokMath
set_option maxRecDepth 100000
namespace Go.Proofs.YtafkkehcacdodaaGreat
open Go.RowKit

/-- What holds of a strand on its disk. -/
structure SvF (F : Nat) (s : St) (t : Sd) (G : List Tr) : Prop where
  srt : G.Pairwise (fun x y => x.pl ≤ y.pl)
  plc : ∀ x ∈ G, x.pl ≤ t.pos ∧ x.pl < s.n
  bd : ∀ x ∈ G, isBytes x.b ∧ 1 ≤ x.b.length ∧ x.b.length ≤ 56
  flo : ∀ x ∈ G, F ≤ x.pl
  fl : F ≤ t.pos
  sc : ∀ k, F ≤ k → k < s.n → ∃ c, SecI s k (inSec G k) c
  hr : t.pos < s.n → sec s.now t.pos = cutC (flatB (inSec G t.pos)) (flatB (inSec G t.pos)).length ∧ (flatB (inSec G t.pos)).length = t.used

theorem inSec_pastF {F : Nat} {s : St} {t : Sd} {G : List Tr} (h : SvF F s t G) (k : Nat) (hk : t.pos < k) : inSec G k = [] := by
  unfold inSec
  rw [List.filter_eq_nil_iff]
  intro x hx
  have := (h.plc x hx).1
  simp; omega

theorem SvF.leave {F : Nat} {s : St} {t : Sd} {G : List Tr} (h : SvF F s t G) : SvF F s t.leave G := by
  refine ⟨h.srt, fun x hx => ⟨by have := (h.plc x hx).1; simp [Sd.leave]; omega, (h.plc x hx).2⟩, h.bd, h.flo, by have := h.fl; simp [Sd.leave]; omega, h.sc, fun hp => ?_⟩
  have e := inSec_pastF h t.leave.pos (by simp [Sd.leave])
  obtain ⟨c, hc⟩ := h.sc t.leave.pos (by have := h.fl; simp [Sd.leave]; omega) hp
  rw [e] at hc ⊢
  refine ⟨?_, rfl⟩
  rw [hc.nw]
  exact cut_nil _ hc.top

theorem SvF.fit {F : Nat} {s : St} {t : Sd} {G : List Tr} (h : SvF F s t G) (b : List Int) : SvF F s (t.fit b) G := by
  unfold Sd.fit
  split
  · exact h.leave
  · exact h

theorem SvF.add {F : Nat} {s : St} {t : Sd} {G : List Tr} (h : SvF F s t G) (l : List Int) : SvF F (s.add l) t G :=
  ⟨h.srt, h.plc, h.bd, h.flo, h.fl, fun k hF hk => by obtain ⟨c, hc⟩ := h.sc k hF hk; exact ⟨c, hc.sr, hc.nw, hc.mono, hc.top, hc.wr, hc.skip, hc.usu, hc.ufi, hc.f64⟩, h.hr⟩

theorem SvF.took {F : Nat} {s : St} {t : Sd} {G : List Tr} (h : SvF F s t G) : SvF F s.take t G :=
  ⟨h.srt, h.plc, h.bd, h.flo, h.fl, fun k hF hk => by obtain ⟨c, hc⟩ := h.sc k hF hk; exact ⟨c, hc.take⟩, h.hr⟩

theorem SvF.settled {F : Nat} {s : St} {t : Sd} {G : List Tr} (h : SvF F s t G) : SvF F s.settled t G :=
  ⟨h.srt, h.plc, h.bd, h.flo, h.fl, fun k hF hk => by obtain ⟨c, hc⟩ := h.sc k hF hk; exact ⟨_, hc.settled⟩, h.hr⟩

theorem SvF.surely {F : Nat} {s : St} {t : Sd} {G : List Tr} (h : SvF F s.settled t G) : SvF F s.settled t (G.map Tr.sured) := by
  refine ⟨?_, ?_, ?_, ?_, h.fl, fun k hF hk => ?_, fun hp => ?_⟩
  · rw [List.pairwise_map]; exact h.srt
  · intro x hx
    obtain ⟨y, hy, rfl⟩ := List.mem_map.1 hx
    exact h.plc y hy
  · intro x hx
    obtain ⟨y, hy, rfl⟩ := List.mem_map.1 hx
    exact h.bd y hy
  · intro x hx
    obtain ⟨y, hy, rfl⟩ := List.mem_map.1 hx
    exact h.flo y hy
  · obtain ⟨c, hc⟩ := h.sc k hF hk
    rw [inSec_sured]
    exact ⟨c, hc.surely⟩
  · rw [inSec_sured, flat_sured]; exact h.hr hp

theorem SvF.sync {F : Nat} {s : St} {t : Sd} {G : List Tr} (h : SvF F s t G) : SvF F s.sync (synT s t) (synG s G) := by
  unfold synG synT
  by_cases e : errC s.out = 0
  · have hs : s.sync = s.take.settled := by unfold St.sync; rw [if_pos (done_of_err e)]
    rw [if_pos e, if_neg (by simp [e]), hs]
    exact h.took.settled.surely
  · rw [if_neg e]
    have hs : SvF F s.sync t G := by
      unfold St.sync
      split
      · exact h.took.settled
      · exact h.took
    split
    · exact hs.leave
    · exact hs

theorem SvF.put {F : Nat} {s : St} {t : Sd} {G : List Tr} (h : SvF F s t G) (ho : s.Ok) (b : List Int) (hb : isBytes b) (h1 : 1 ≤ b.length) (h2 : b.length ≤ 56) (hp : t.pos < s.n) (hu : t.used + (b.length + 7) ≤ 64) :
    SvF F (s.write t.pos (withB (sec s.now t.pos) t.used (frameB b))) (if errC s.out = 0 then t.added b else t.leave) (G ++ [⟨t.pos, b, decide (errC s.out = 0), false⟩]) := by
  obtain ⟨hr1, hr2⟩ := h.hr hp
  obtain ⟨x, hx⟩ : ∃ x : Tr, x = ⟨t.pos, b, decide (errC s.out = 0), false⟩ := ⟨_, rfl⟩
  rw [← hx]
  have hxp : x.pl = t.pos := by rw [hx]
  have hxb : x.b = b := by rw [hx]
  have hxs : x.su = false := by rw [hx]
  have hxf : x.fi = decide (errC s.out = 0) := by rw [hx]
  clear hx
  have hfl := frameB_len b
  have hF : (flatB (inSec G t.pos ++ [x])).length = t.used + (b.length + 7) := by rw [flat_snoc, List.length_append, hr2, hxb, hfl]
  have hW : withB (sec s.now t.pos) t.used (frameB b) = cutC (flatB (inSec G t.pos ++ [x])) (flatB (inSec G t.pos ++ [x])).length := by
    rw [hF]
    unfold withB
    rw [hr1, flat_snoc, hxb]
    unfold cutC
    rw [List.take_of_length_le (Nat.le_refl _), ← hr2, List.take_left, List.take_of_length_le (by rw [List.length_append, hfl]; omega), hfl, Nat.sub_sub]
  have hWl := cut_len (flatB (inSec G t.pos ++ [x])) _ (Nat.le_refl _) (by omega)
  rw [hW]
  -- the rest of what holds
  have srt' : (G ++ [x]).Pairwise (fun x y => x.pl ≤ y.pl) := by
    rw [List.pairwise_append]
    refine ⟨h.srt, List.pairwise_singleton _ _, fun y hy z hz => ?_⟩
    rw [List.mem_singleton] at hz
    subst hz
    rw [hxp]
    exact (h.plc y hy).1
  have plc' : ∀ y ∈ G ++ [x], y.pl ≤ t.pos ∧ y.pl < s.n := by
    intro y hy
    rw [List.mem_append, List.mem_singleton] at hy
    rcases hy with hy | rfl
    · exact h.plc y hy
    · rw [hxp]; exact ⟨Nat.le_refl _, hp⟩
  have flo' : ∀ y ∈ G ++ [x], F ≤ y.pl := by
    intro y hy
    rw [List.mem_append, List.mem_singleton] at hy
    rcases hy with hy | rfl
    · exact h.flo y hy
    · rw [hxp]; exact h.fl
  have bd' : ∀ y ∈ G ++ [x], isBytes y.b ∧ 1 ≤ y.b.length ∧ y.b.length ≤ 56 := by
    intro y hy
    rw [List.mem_append, List.mem_singleton] at hy
    rcases hy with hy | rfl
    · exact h.bd y hy
    · rw [hxb]; exact ⟨hb, h1, h2⟩
  have hin : inSec (G ++ [x]) t.pos = inSec G t.pos ++ [x] := by rw [← hxp]; exact inSec_snoc_eq G x
  have hin2 : ∀ k, k ≠ t.pos → inSec (G ++ [x]) k = inSec G k := fun k hk => inSec_snoc_ne G x k (by rw [hxp]; exact hk)
  obtain ⟨c, hc⟩ := h.sc t.pos h.fl hp
  by_cases hd : doneB s.out = true
  · have hs : s.write t.pos (cutC (flatB (inSec G t.pos ++ [x])) (flatB (inSec G t.pos ++ [x])).length) = s.take.wrote t.pos (cutC (flatB (inSec G t.pos ++ [x])) (flatB (inSec G t.pos ++ [x])).length) := by unfold St.write; rw [if_pos hd]
    rw [hs]
    obtain ⟨c', hc', htop⟩ := hc.take.put ho.take hp x hxs (by omega)
    have hsc : ∀ k, F ≤ k → k < s.n → ∃ c, SecI (s.take.wrote t.pos (cutC (flatB (inSec G t.pos ++ [x])) (flatB (inSec G t.pos ++ [x])).length)) k (inSec (G ++ [x]) k) c := by
      intro k hF hk
      by_cases e : k = t.pos
      · rw [e, hin]; exact ⟨c', hc'⟩
      · rw [hin2 k e]
        obtain ⟨ck, hck⟩ := h.sc k hF hk
        exact hck.take.aside ho.take t.pos hp e _ hWl
    have hA : SvF F (s.take.wrote t.pos (cutC (flatB (inSec G t.pos ++ [x])) (flatB (inSec G t.pos ++ [x])).length)) (t.added b) (G ++ [x]) :=
      ⟨srt', plc', bd', flo', h.fl, hsc, fun _ => by
        show sec _ t.pos = cutC (flatB (inSec (G ++ [x]) t.pos)) (flatB (inSec (G ++ [x]) t.pos)).length ∧ (flatB (inSec (G ++ [x]) t.pos)).length = _
        rw [hin]
        refine ⟨?_, hF⟩
        exact sec_splice _ _ t.pos s.n ho.nl hWl hp⟩
    split
    · exact hA
    · have hL := hA.leave
      exact ⟨hL.srt, hL.plc, hL.bd, hL.flo, hL.fl, hL.sc, hL.hr⟩
  · have hs : s.write t.pos (cutC (flatB (inSec G t.pos ++ [x])) (flatB (inSec G t.pos ++ [x])).length) = s.take := by unfold St.write; rw [if_neg hd]
    have he : ¬ errC s.out = 0 := fun e => hd (done_of_err e)
    rw [hs, if_neg he]
    have hxf' : x.fi = false := by rw [hxf]; simp [he]
    have hsc : ∀ k, F ≤ k → k < s.n → ∃ c, SecI s.take k (inSec (G ++ [x]) k) c := by
      intro k hF hk
      by_cases e : k = t.pos
      · rw [e, hin]; exact ⟨c, hc.take.grow x hxf' hxs (by omega)⟩
      · rw [hin2 k e]
        obtain ⟨ck, hck⟩ := h.sc k hF hk
        exact ⟨ck, hck.take⟩
    refine ⟨srt', fun y hy => ⟨by have := (plc' y hy).1; simp [Sd.leave]; omega, (plc' y hy).2⟩, bd', flo', by have := h.fl; simp [Sd.leave]; omega, hsc, fun hp2 => ?_⟩
    have hp2' : t.pos + 1 < s.n := hp2
    have e : inSec (G ++ [x]) (t.pos + 1) = [] := by
      unfold inSec
      rw [List.filter_eq_nil_iff]
      intro y hy
      have := (plc' y hy).1
      simp; omega
    obtain ⟨c2, hc2⟩ := hsc (t.pos + 1) (by have := h.fl; omega) hp2'
    show sec _ (t.pos + 1) = cutC (flatB (inSec (G ++ [x]) (t.pos + 1))) (flatB (inSec (G ++ [x]) (t.pos + 1))).length ∧ (flatB (inSec (G ++ [x]) (t.pos + 1))).length = 0
    rw [e] at hc2 ⊢
    refine ⟨?_, rfl⟩
    rw [hc2.nw]
    exact cut_nil _ hc2.top

theorem SvF.app {F : Nat} {s : St} {t : Sd} {G : List Tr} (h : SvF F s t G) (ho : s.Ok) (ht : t.Ok s.n) (b : List Int) (hb : isBytes b) : SvF F (appS s t b) (appT s t b) (appG s t b G) := by
  unfold appS appT appG
  by_cases hE : frameE b = 0
  · have hE' : ¬ frameE b ≠ 0 := fun e => e hE
    rw [if_neg hE', if_neg hE', if_neg hE']
    have hl : 1 ≤ b.length ∧ b.length ≤ 56 := by
      unfold frameE at hE
      split at hE
      · cases hE
      · split at hE
        · cases hE
        · omega
    obtain ⟨_, f2, _⟩ := ht.fit b hE
    by_cases hn : s.n ≤ (t.fit b).pos
    · rw [if_pos hn, if_pos hn, if_pos hn]; exact h.fit b
    · rw [if_neg hn, if_neg hn, if_neg hn]
      exact (h.fit b).put ho b hb hl.1 hl.2 (by omega) f2
  · rw [if_pos hE, if_pos hE, if_pos hE]; exact h

/-- The bodies of the sectors ahead of one. -/
def bodK (now : List Int) (k : Nat) : List (List Int) := (openK now k).recs.map Prod.snd

theorem bodK_succ (now : List Int) (k : Nat) : bodK now (k + 1) = bodK now k ++ scanB (sec now k) := by
  simp only [bodK, openK, List.map_append, List.map_map]
  congr 1
  exact List.map_id _

theorem bodK_same {N N' : List Int} : ∀ k, (∀ j, j < k → sec N j = sec N' j) → bodK N k = bodK N' k := by
  intro k
  induction k with
  | zero => intro _; rfl
  | succ k ih =>
    intro h
    rw [bodK_succ, bodK_succ, ih (fun j hj => h j (by omega)), h k (by omega)]

theorem bodies_bodK (s : St) : bodies (openT s) = bodK s.now s.n := rfl

/-- What a disk may hold: each sector from the floor on cut off somewhere behind what is marked. -/
def Poss (f : Tr → Bool) (F : Nat) (s : St) (G : List Tr) (N : List Int) : Prop :=
  ∀ k, F ≤ k → k < s.n → ∃ a, sec N k = cutC (flatB (inSec G k)) a ∧ a ≤ (flatB (inSec G k)).length ∧ Upto f (inSec G k) a

theorem SvF.possC {F : Nat} {s : St} {t : Sd} {G : List Tr} (h : SvF F s t G) (ho : s.Ok) (ch : List Int) : Poss Tr.su F s G (s.crash ch).now := by
  intro k hF hk
  obtain ⟨c, hc⟩ := h.sc k hF hk
  obtain ⟨a, ha, h0, h1⟩ := hc.torn ho hk ch s.since.length (Nat.le_refl _)
  exact ⟨a, ha, Nat.le_trans h1 hc.top, hc.usu.le h0⟩

theorem SvF.possN {F : Nat} {s : St} {t : Sd} {G : List Tr} (h : SvF F s t G) : Poss Tr.su F s G s.now := by
  intro k hF hk
  obtain ⟨c, hc⟩ := h.sc k hF hk
  have h0 := hc.le s.since.length 0 (by omega)
  rw [Nat.zero_add] at h0
  exact ⟨_, hc.nw, hc.top, hc.usu.le h0⟩

theorem Poss.open {F : Nat} {s : St} {t : Sd} {G : List Tr} (h : SvF F s t G) {N : List Int} (hp : Poss Tr.su F s G N) : ∀ k, F ≤ k → k ≤ s.n → ∃ hh, bodK N k = bodK N F ++ hh ∧ Btw hh (G.filter fun x => decide (x.pl < k)) := by
  intro k
  induction k with
  | zero =>
    intro hF _
    have hF0 : F = 0 := by omega
    subst hF0
    have : (G.filter fun x => decide (x.pl < 0)) = [] := by rw [List.filter_eq_nil_iff]; intro x _; simp
    rw [this]
    exact ⟨[], by simp, .nil⟩
  | succ k ih =>
    intro hF hk
    by_cases hFk : F ≤ k
    · obtain ⟨hh, e1, e2⟩ := ih hFk (by omega)
      obtain ⟨a, ha, h1, h2⟩ := hp k hFk (by omega)
      rw [below_split G k h.srt]
      refine ⟨hh ++ scanB (sec N k), by rw [bodK_succ, e1, List.append_assoc], e2.append ?_⟩
      rw [ha]
      unfold cutC
      exact scan_cut _ a _ (fun x hx => h.bd x (List.mem_filter.1 hx).1) h1 h2
    · have hFk' : F = k + 1 := by omega
      subst hFk'
      have : (G.filter fun x => decide (x.pl < k + 1)) = [] := by
        rw [List.filter_eq_nil_iff]
        intro x hx
        have := h.flo x hx
        simp; omega
      rw [this]
      exact ⟨[], by simp, .nil⟩

/-- What is found. -/
theorem Poss.found {F : Nat} {s : St} {t : Sd} {G : List Tr} (h : SvF F s t G) (hF : F ≤ s.n) {N : List Int} (hp : Poss Tr.su F s G N) : ∃ hh, bodK N s.n = bodK N F ++ hh ∧ Btw hh G := by
  obtain ⟨hh, e1, e2⟩ := Poss.open h hp s.n hF (Nat.le_refl _)
  have e : (G.filter fun x => decide (x.pl < s.n)) = G := by
    rw [List.filter_eq_self]
    intro x hx
    have := (h.plc x hx).2
    simpa using this
  rw [e] at e2
  exact ⟨hh, e1, e2⟩

/-- Below the floor all is as it was. -/
structure Old (F : Nat) (N0 : List Int) (s : St) : Prop where
  su : ∀ k, k < F → k < s.n → sec s.sure k = sec N0 k
  nw : ∀ k, k < F → k < s.n → sec s.now k = sec N0 k
  sn : ∀ x ∈ s.since, F ≤ x.1

theorem Old.take {F : Nat} {N0 : List Int} {s : St} (h : Old F N0 s) : Old F N0 s.take := ⟨h.su, h.nw, h.sn⟩
theorem Old.add {F : Nat} {N0 : List Int} {s : St} (h : Old F N0 s) (l : List Int) : Old F N0 (s.add l) := ⟨h.su, h.nw, h.sn⟩
theorem Old.settled {F : Nat} {N0 : List Int} {s : St} (h : Old F N0 s) : Old F N0 s.settled := ⟨h.nw, h.nw, fun x hx => by cases hx⟩

theorem Old.sync {F : Nat} {N0 : List Int} {s : St} (h : Old F N0 s) : Old F N0 s.sync := by
  unfold St.sync
  split
  · exact h.take.settled
  · exact h.take

theorem Old.wrote {F : Nat} {N0 : List Int} {s : St} (h : Old F N0 s) (ho : s.Ok) (k : Nat) (hk : k < s.n) (hF : F ≤ k) (l : List Int) (hl : l.length = 64) : Old F N0 (s.wrote k l) := by
  refine ⟨h.su, fun j hj hj2 => ?_, fun x hx => ?_⟩
  · have := sec_other s.now l k j s.n ho.nl hk (by omega) (by omega)
    exact this.trans (h.nw j hj hj2)
  · have hx' : x ∈ s.since ++ [(k, l)] := hx
    rcases List.mem_append.1 hx' with hx' | hx'
    · exact h.sn x hx'
    · rw [List.mem_singleton.1 hx']; exact hF

theorem Old.app {F : Nat} {N0 : List Int} {s : St} (h : Old F N0 s) (ho : s.Ok) {t : Sd} (ht : t.Ok s.n) (hF : F ≤ t.pos) (b : List Int) : Old F N0 (appS s t b) := by
  unfold appS
  by_cases hE : frameE b ≠ 0
  · rw [if_pos hE]; exact h
  rw [if_neg hE]
  have hE' : frameE b = 0 := by simpa using hE
  obtain ⟨_, f2, _⟩ := ht.fit b hE'
  have hfl := frameB_len b
  have hpos : F ≤ (t.fit b).pos := by
    unfold Sd.fit
    split
    · simp [Sd.leave]; omega
    · exact hF
  split
  · exact h
  · rename_i hn
    have hs := sec_len ho.nl (show (t.fit b).pos < s.n by omega)
    have hW : (withB (sec s.now (t.fit b).pos) (t.fit b).used (frameB b)).length = 64 := withB_len _ _ _ hs (by omega)
    unfold St.write
    split
    · exact h.take.wrote ho.take _ (by show _ < s.n; omega) hpos _ hW
    · exact h.take

theorem Old.torn {F : Nat} {N0 : List Int} {s : St} (h : Old F N0 s) (ho : s.Ok) (ch : List Int) (k : Nat) (hk : k < F) (hkn : k < s.n) : ∀ i, i ≤ s.since.length → sec (Go.Proofs.YtafkkehcacdodaaGreat.torn ch s.sure s.since i) k = sec N0 k := by
  intro i
  induction i with
  | zero => intro _; exact h.su k hk hkn
  | succ i ih =>
    intro hi
    obtain ⟨w1, w2, _⟩ := wr_at ho i (by omega)
    have hln := (torn_len ho ch i (by omega)).1
    have hx := leftN_le ch i
    have hF : F ≤ (s.since.getD i (0, [])).1 := by
      have := h.sn (s.since.getD i (0, [])) (by rw [List.getD_eq_getElem?_getD, List.getElem?_eq_getElem (show i < s.since.length by omega)]; exact List.getElem_mem _)
      exact this
    show sec (splice (Go.Proofs.YtafkkehcacdodaaGreat.torn ch s.sure s.since i) _ _) k = _
    rw [sec_other _ _ _ k s.n hln w1 (by rw [List.length_take]; omega) (by omega)]
    exact ih (by omega)

theorem Old.crash {F : Nat} {N0 : List Int} {s : St} (h : Old F N0 s) (ho : s.Ok) (ch : List Int) (k : Nat) (hk : k < F) (hkn : k < s.n) : sec (s.crash ch).now k = sec N0 k :=
  h.torn ho ch k hk hkn s.since.length (Nat.le_refl _)

theorem open_blank (now : List Int) : ∀ k j, (openK now k).pos ≤ j → j < k → allz (sec now j) = true := by
  intro k
  induction k with
  | zero => intro j _ h; omega
  | succ k ih =>
    intro j h1 h2
    have hp : (openK now (k + 1)).pos = if allz (sec now k) then (openK now k).pos else k + 1 := rfl
    rw [hp] at h1
    split at h1
    · rename_i hz
      by_cases e : j = k
      · rw [e]; exact hz
      · exact ih j h1 (by omega)
    · omega

theorem allz_zeros {l : List Int} (h : allz l = true) : l = zeros l.length := by
  unfold allz at h
  unfold zeros
  rw [List.eq_replicate_iff]
  refine ⟨rfl, fun x hx => ?_⟩
  have := List.all_eq_true.1 h x hx
  simpa using this

/-- Behind an Open nothing of it is tried yet: the floor is the place. -/
theorem SvF.start {s : St} (ho : s.Ok) (hs : s.since = []) (hsn : s.sure = s.now) : SvF (openT s).pos s (openT s) [] ∧ Old (openT s).pos s.now s := by
  have hblank : ∀ k, (openT s).pos ≤ k → k < s.n → sec s.now k = cutC [] 0 := by
    intro k h1 h2
    have := allz_zeros (open_blank s.now s.n k h1 h2)
    rw [sec_len ho.nl h2] at this
    exact this
  have hu := (openT_ok ho).2.2
  refine ⟨⟨.nil, (fun x hx => by cases hx), (fun x hx => by cases hx), (fun x hx => by cases hx), Nat.le_refl _, fun k hF hk => ⟨fun _ => 0, ?_⟩, fun hp => ?_⟩, ⟨fun k _ _ => by rw [hsn], fun k _ _ => rfl, fun x hx => by rw [hs] at hx; cases hx⟩⟩
  · have hb := hblank k hF hk
    refine ⟨by rw [hsn]; exact hb, hb, fun i _ => Nat.le_refl _, Nat.zero_le _, fun i hi => by rw [hs] at hi; simp at hi, fun i _ _ => rfl, fun i x hi => by simp [inSec] at hi, fun i x hi => by simp [inSec] at hi, by simp [inSec, flatB]⟩
  · refine ⟨hblank _ (Nat.le_refl _) hp, ?_⟩
    rw [hu]; rfl

end Go.Proofs.YtafkkehcacdodaaGreat
