/- What holds of a strand's sectors while it runs: plain mathematics. -/
import Derived.Test.YtafkkehcacdodaaGreatStrSurvMath
import Derived.Test.YtafkkehcacdodaaGreatStrAll
set_option maxRecDepth 100000
namespace Go.Proofs.YtafkkehcacdodaaGreat
open Go.RowKit

section
variable {s : St} {k : Nat} {R : List Tr} {c : Nat → Nat}

/-- A record that was not written. -/
theorem SecI.grow (h : SecI s k R c) (x : Tr) (hf : x.fi = false) (hs : x.su = false) (h64 : (flatB (R ++ [x])).length ≤ 64) : SecI s k (R ++ [x]) c := by
  have hc : ∀ i, i ≤ s.since.length → cutC (flatB (R ++ [x])) (c i) = cutC (flatB R) (c i) := fun i hi => by rw [flat_snoc]; exact cut_more _ _ _ (h.tops i hi)
  refine ⟨?_, ?_, h.mono, ?_, ?_, h.skip, h.usu.snoc x (fun e => by rw [hs] at e; cases e), h.ufi.snoc x (fun e => by rw [hf] at e; cases e), h64⟩
  · rw [hc 0 (Nat.zero_le _)]; exact h.sr
  · rw [hc _ (Nat.le_refl _)]; exact h.nw
  · rw [flat_snoc, List.length_append]; have := h.top; omega
  · intro i hi e; rw [hc (i + 1) hi]; exact h.wr i hi e

theorem since_lt (ws : List (Nat × List Int)) (y : Nat × List Int) (i : Nat) (h : i < ws.length) : (ws ++ [y]).getD i (0, []) = ws.getD i (0, []) := by
  simp only [List.getD, List.getElem?_append_left h]
theorem since_eq (ws : List (Nat × List Int)) (y : Nat × List Int) : (ws ++ [y]).getD ws.length (0, []) = y := by simp [List.getD]

/-- A record that was written. -/
theorem SecI.put (h : SecI s k R c) (ho : s.Ok) (hk : k < s.n) (x : Tr) (hs : x.su = false) (h64 : (flatB (R ++ [x])).length ≤ 64) :
    ∃ c', SecI (s.wrote k (cutC (flatB (R ++ [x])) (flatB (R ++ [x])).length)) k (R ++ [x]) c' ∧ c' (s.since.length + 1) = (flatB (R ++ [x])).length := by
  have hc : ∀ i, i ≤ s.since.length → cutC (flatB (R ++ [x])) (c i) = cutC (flatB R) (c i) := fun i hi => by rw [flat_snoc]; exact cut_more _ _ _ (h.tops i hi)
  have hle : (flatB R).length ≤ (flatB (R ++ [x])).length := by rw [flat_snoc, List.length_append]; omega
  have hw := cut_len (flatB (R ++ [x])) _ (Nat.le_refl _) h64
  generalize hF : flatB (R ++ [x]) = F at *
  have hsl : (s.wrote k (cutC F F.length)).since = s.since ++ [(k, cutC F F.length)] := rfl
  obtain ⟨c', hc1, hc2⟩ : ∃ c' : Nat → Nat, (∀ i, i ≤ s.since.length → c' i = c i) ∧ c' (s.since.length + 1) = F.length := ⟨fun i => if i ≤ s.since.length then c i else F.length, fun i hi => by simp [hi], if_neg (by omega)⟩
  refine ⟨c', ⟨?_, ?_, ?_, ?_, ?_, ?_, ?_, ?_, by rw [hF]; exact h64⟩, hc2⟩
  · rw [hc1 0 (Nat.zero_le _), hF, hc 0 (Nat.zero_le _)]; exact h.sr
  · rw [hsl, List.length_append, List.length_singleton, hc2, hF]
    exact sec_splice _ _ k s.n ho.nl hw hk
  · intro i hi
    rw [hsl, List.length_append, List.length_singleton] at hi
    rw [hc1 i (by omega)]
    by_cases e : i < s.since.length
    · rw [hc1 (i + 1) (by omega)]; exact h.mono i e
    · have : i = s.since.length := by omega
      subst this
      rw [hc2]
      exact Nat.le_trans h.top hle
  · rw [hsl, List.length_append, List.length_singleton, hc2, hF]; exact Nat.le_refl _
  · intro i hi e
    rw [hsl, List.length_append, List.length_singleton] at hi
    rw [hsl] at e ⊢
    by_cases hlt : i < s.since.length
    · rw [since_lt _ _ _ hlt] at e ⊢
      rw [hc1 (i + 1) (by omega), hF, hc (i + 1) (by omega)]
      exact h.wr i hlt e
    · have : i = s.since.length := by omega
      subst this
      rw [since_eq, hc2, hF]
  · intro i hi e
    rw [hsl, List.length_append, List.length_singleton] at hi
    rw [hsl] at e
    by_cases hlt : i < s.since.length
    · rw [since_lt _ _ _ hlt] at e
      rw [hc1 (i + 1) (by omega), hc1 i (by omega)]
      exact h.skip i hlt e
    · have : i = s.since.length := by omega
      subst this
      rw [since_eq] at e
      exact absurd rfl e
  · rw [hc1 0 (Nat.zero_le _)]; exact h.usu.snoc x (fun e => by rw [hs] at e; cases e)
  · rw [hsl, List.length_append, List.length_singleton, hc2, ← hF]; exact Upto.all

/-- Another sector is written. -/
theorem SecI.aside (h : SecI s k R c) (ho : s.Ok) (j : Nat) (hj : j < s.n) (hne : k ≠ j) (l : List Int) (hl : l.length = 64) :
    ∃ c', SecI (s.wrote j l) k R c' := by
  have hsl : (s.wrote j l).since = s.since ++ [(j, l)] := rfl
  obtain ⟨c', hc1, hc2⟩ : ∃ c' : Nat → Nat, (∀ i, i ≤ s.since.length → c' i = c i) ∧ c' (s.since.length + 1) = c s.since.length := ⟨fun i => if i ≤ s.since.length then c i else c s.since.length, fun i hi => by simp [hi], if_neg (by omega)⟩
  refine ⟨c', ⟨?_, ?_, ?_, ?_, ?_, ?_, ?_, ?_, h.f64⟩⟩
  · rw [hc1 0 (Nat.zero_le _)]; exact h.sr
  · rw [hsl, List.length_append, List.length_singleton, hc2, ← h.nw]
    exact sec_other _ _ j k s.n ho.nl hj (by omega) hne
  · intro i hi
    rw [hsl, List.length_append, List.length_singleton] at hi
    rw [hc1 i (by omega)]
    by_cases e : i < s.since.length
    · rw [hc1 (i + 1) (by omega)]; exact h.mono i e
    · have : i = s.since.length := by omega
      subst this
      rw [hc2]; exact Nat.le_refl _
  · rw [hsl, List.length_append, List.length_singleton, hc2]; exact h.top
  · intro i hi e
    rw [hsl, List.length_append, List.length_singleton] at hi
    rw [hsl] at e ⊢
    by_cases hlt : i < s.since.length
    · rw [since_lt _ _ _ hlt] at e ⊢
      rw [hc1 (i + 1) (by omega)]
      exact h.wr i hlt e
    · have : i = s.since.length := by omega
      subst this
      rw [since_eq] at e
      exact absurd e.symm hne
  · intro i hi e
    rw [hsl, List.length_append, List.length_singleton] at hi
    rw [hsl] at e
    by_cases hlt : i < s.since.length
    · rw [since_lt _ _ _ hlt] at e
      rw [hc1 (i + 1) (by omega), hc1 i (by omega)]
      exact h.skip i hlt e
    · have : i = s.since.length := by omega
      subst this
      rw [hc2, hc1 _ (Nat.le_refl _)]
  · rw [hc1 0 (Nat.zero_le _)]; exact h.usu
  · rw [hsl, List.length_append, List.length_singleton, hc2]; exact h.ufi

theorem SecI.take (h : SecI s k R c) : SecI s.take k R c := ⟨h.sr, h.nw, h.mono, h.top, h.wr, h.skip, h.usu, h.ufi, h.f64⟩

theorem SecI.settled (h : SecI s k R c) : SecI s.settled k R (fun _ => c s.since.length) := by
  have h0 := h.le s.since.length 0 (by omega)
  rw [Nat.zero_add] at h0
  exact ⟨h.nw, h.nw, fun i hi => Nat.le_refl _, h.top, fun i hi => by simp [St.settled] at hi, fun i hi _ => rfl, h.usu.le h0, h.ufi, h.f64⟩

end

def Tr.sured (x : Tr) : Tr := ⟨x.pl, x.b, x.fi, x.fi⟩

theorem flat_sured (R : List Tr) : flatB (R.map Tr.sured) = flatB R := by
  unfold flatB; rw [List.flatMap_map]; rfl

theorem SecI.surely {s : St} {k : Nat} {R : List Tr} {c : Nat → Nat} (h : SecI s.settled k R c) : SecI s.settled k (R.map Tr.sured) c := by
  have hu : ∀ (f : Tr → Bool) (a : Nat), Upto (fun x => f x.sured) R a → Upto f (R.map Tr.sured) a := by
    intro f a hu i y hi hy
    rw [List.getElem?_map] at hi
    cases hr : R[i]? with
    | none => rw [hr] at hi; cases hi
    | some x =>
      rw [hr] at hi
      simp only [Option.map_some, Option.some.injEq] at hi
      subst hi
      rw [← List.map_take, flat_sured]
      exact hu i x hr hy
  refine ⟨by rw [flat_sured]; exact h.sr, by rw [flat_sured]; exact h.nw, h.mono, by rw [flat_sured]; exact h.top, by rw [flat_sured]; exact h.wr, h.skip, hu _ _ h.ufi, hu _ _ h.ufi, by rw [flat_sured]; exact h.f64⟩

def inSec (G : List Tr) (k : Nat) : List Tr := G.filter fun x => x.pl == k

/-- What holds of a strand on its disk. -/
structure Sv (s : St) (t : Sd) (G : List Tr) : Prop where
  srt : G.Pairwise (fun x y => x.pl ≤ y.pl)
  plc : ∀ x ∈ G, x.pl ≤ t.pos ∧ x.pl < s.n
  bd : ∀ x ∈ G, isBytes x.b ∧ 1 ≤ x.b.length ∧ x.b.length ≤ 56
  sc : ∀ k, k < s.n → ∃ c, SecI s k (inSec G k) c
  hr : t.pos < s.n → sec s.now t.pos = cutC (flatB (inSec G t.pos)) (flatB (inSec G t.pos)).length ∧ (flatB (inSec G t.pos)).length = t.used

theorem inSec_past {s : St} {t : Sd} {G : List Tr} (h : Sv s t G) (k : Nat) (hk : t.pos < k) : inSec G k = [] := by
  unfold inSec
  rw [List.filter_eq_nil_iff]
  intro x hx
  have := (h.plc x hx).1
  simp; omega

theorem cut_nil (a : Nat) (h : a ≤ ([] : List Int).length) : cutC [] a = cutC [] 0 := by
  have : a = 0 := by simpa using h
  rw [this]

theorem Sv.leave {s : St} {t : Sd} {G : List Tr} (h : Sv s t G) : Sv s t.leave G := by
  refine ⟨h.srt, fun x hx => ⟨by have := (h.plc x hx).1; simp [Sd.leave]; omega, (h.plc x hx).2⟩, h.bd, h.sc, fun hp => ?_⟩
  have e := inSec_past h t.leave.pos (by simp [Sd.leave])
  obtain ⟨c, hc⟩ := h.sc t.leave.pos hp
  rw [e] at hc ⊢
  refine ⟨?_, rfl⟩
  rw [hc.nw]
  exact cut_nil _ hc.top

theorem Sv.fit {s : St} {t : Sd} {G : List Tr} (h : Sv s t G) (b : List Int) : Sv s (t.fit b) G := by
  unfold Sd.fit
  split
  · exact h.leave
  · exact h

theorem Sv.new (n : Nat) : Sv (St.new n) ⟨0, 0, []⟩ [] := by
  refine ⟨.nil, (fun x hx => by cases hx), (fun x hx => by cases hx), fun k hk => ⟨fun _ => 0, ?_⟩, fun hp => ?_⟩
  · have hz : sec (zeros (n * 64)) k = zeros 64 := sec_zeros n k hk
    refine ⟨hz, hz, fun i _ => Nat.le_refl _, Nat.zero_le _, fun i hi => by simp [St.new] at hi, fun i _ _ => rfl, fun i x hi => by simp [inSec] at hi, fun i x hi => by simp [inSec] at hi, by simp [inSec, flatB]⟩
  · exact ⟨sec_zeros n 0 hp, rfl⟩

theorem Sv.add {s : St} {t : Sd} {G : List Tr} (h : Sv s t G) (l : List Int) : Sv (s.add l) t G :=
  ⟨h.srt, h.plc, h.bd, fun k hk => by obtain ⟨c, hc⟩ := h.sc k hk; exact ⟨c, hc.sr, hc.nw, hc.mono, hc.top, hc.wr, hc.skip, hc.usu, hc.ufi, hc.f64⟩, h.hr⟩

theorem Sv.took {s : St} {t : Sd} {G : List Tr} (h : Sv s t G) : Sv s.take t G :=
  ⟨h.srt, h.plc, h.bd, fun k hk => by obtain ⟨c, hc⟩ := h.sc k hk; exact ⟨c, hc.take⟩, h.hr⟩

theorem Sv.settled {s : St} {t : Sd} {G : List Tr} (h : Sv s t G) : Sv s.settled t G :=
  ⟨h.srt, h.plc, h.bd, fun k hk => by obtain ⟨c, hc⟩ := h.sc k hk; exact ⟨_, hc.settled⟩, h.hr⟩

theorem inSec_sured (G : List Tr) (k : Nat) : inSec (G.map Tr.sured) k = (inSec G k).map Tr.sured := by
  unfold inSec; rw [List.filter_map]; rfl

theorem Sv.surely {s : St} {t : Sd} {G : List Tr} (h : Sv s.settled t G) : Sv s.settled t (G.map Tr.sured) := by
  refine ⟨?_, ?_, ?_, fun k hk => ?_, fun hp => ?_⟩
  · rw [List.pairwise_map]; exact h.srt
  · intro x hx
    obtain ⟨y, hy, rfl⟩ := List.mem_map.1 hx
    exact h.plc y hy
  · intro x hx
    obtain ⟨y, hy, rfl⟩ := List.mem_map.1 hx
    exact h.bd y hy
  · obtain ⟨c, hc⟩ := h.sc k hk
    rw [inSec_sured]
    exact ⟨c, hc.surely⟩
  · rw [inSec_sured, flat_sured]; exact h.hr hp

def synG (s : St) (G : List Tr) : List Tr := if errC s.out = 0 then G.map Tr.sured else G

theorem done_of_err {c : Int} (h : errC c = 0) : doneB c = true := by
  unfold errC at h
  unfold doneB
  split at h
  · rename_i e; rw [e]; decide
  · cases h

theorem Sv.sync {s : St} {t : Sd} {G : List Tr} (h : Sv s t G) : Sv s.sync (synT s t) (synG s G) := by
  unfold synG synT
  by_cases e : errC s.out = 0
  · have hs : s.sync = s.take.settled := by unfold St.sync; rw [if_pos (done_of_err e)]
    rw [if_pos e, if_neg (by simp [e]), hs]
    exact h.took.settled.surely
  · rw [if_neg e]
    have hs : Sv s.sync t G := by
      unfold St.sync
      split
      · exact h.took.settled
      · exact h.took
    split
    · exact hs.leave
    · exact hs

/-- What is tried by an Append. -/
def appG (s : St) (t : Sd) (b : List Int) (G : List Tr) : List Tr :=
  if frameE b ≠ 0 then G else if s.n ≤ (t.fit b).pos then G else G ++ [⟨(t.fit b).pos, b, decide (errC s.out = 0), false⟩]

theorem inSec_snoc_eq (G : List Tr) (x : Tr) : inSec (G ++ [x]) x.pl = inSec G x.pl ++ [x] := by simp [inSec]
theorem inSec_snoc_ne (G : List Tr) (x : Tr) (k : Nat) (h : k ≠ x.pl) : inSec (G ++ [x]) k = inSec G k := by
  unfold inSec
  rw [List.filter_append, List.filter_cons_of_neg (by simp; exact fun e => h e.symm), List.filter_nil, List.append_nil]

theorem Sv.put {s : St} {t : Sd} {G : List Tr} (h : Sv s t G) (ho : s.Ok) (b : List Int) (hb : isBytes b) (h1 : 1 ≤ b.length) (h2 : b.length ≤ 56) (hp : t.pos < s.n) (hu : t.used + (b.length + 7) ≤ 64) :
    Sv (s.write t.pos (withB (sec s.now t.pos) t.used (frameB b))) (if errC s.out = 0 then t.added b else t.leave) (G ++ [⟨t.pos, b, decide (errC s.out = 0), false⟩]) := by
  obtain ⟨hr1, hr2⟩ := h.hr hp
  obtain ⟨x, hx⟩ : ∃ x : Tr, x = ⟨t.pos, b, decide (errC s.out = 0), false⟩ := ⟨_, rfl⟩
  rw [← hx]
  have hxp : x.pl = t.pos := by rw [hx]
  have hxb : x.b = b := by rw [hx]
  have hxs : x.su = false := by rw [hx]
  have hxf : x.fi = decide (errC s.out = 0) := by rw [hx]
  clear hx
  have hfl := frameB_len b
  have hF : (flatB (inSec G t.pos ++ [x])).length = t.used + (b.length + 7) := by rw [flat_snoc, List.length_append, hr2, hxb, hfl]
  have hW : withB (sec s.now t.pos) t.used (frameB b) = cutC (flatB (inSec G t.pos ++ [x])) (flatB (inSec G t.pos ++ [x])).length := by
    rw [hF]
    unfold withB
    rw [hr1, flat_snoc, hxb]
    unfold cutC
    rw [List.take_of_length_le (Nat.le_refl _), ← hr2, List.take_left, List.take_of_length_le (by rw [List.length_append, hfl]; omega), hfl, Nat.sub_sub]
  have hWl := cut_len (flatB (inSec G t.pos ++ [x])) _ (Nat.le_refl _) (by omega)
  rw [hW]
  -- the rest of what holds
  have srt' : (G ++ [x]).Pairwise (fun x y => x.pl ≤ y.pl) := by
    rw [List.pairwise_append]
    refine ⟨h.srt, List.pairwise_singleton _ _, fun y hy z hz => ?_⟩
    rw [List.mem_singleton] at hz
    subst hz
    rw [hxp]
    exact (h.plc y hy).1
  have plc' : ∀ y ∈ G ++ [x], y.pl ≤ t.pos ∧ y.pl < s.n := by
    intro y hy
    rw [List.mem_append, List.mem_singleton] at hy
    rcases hy with hy | rfl
    · exact h.plc y hy
    · rw [hxp]; exact ⟨Nat.le_refl _, hp⟩
  have bd' : ∀ y ∈ G ++ [x], isBytes y.b ∧ 1 ≤ y.b.length ∧ y.b.length ≤ 56 := by
    intro y hy
    rw [List.mem_append, List.mem_singleton] at hy
    rcases hy with hy | rfl
    · exact h.bd y hy
    · rw [hxb]; exact ⟨hb, h1, h2⟩
  have hin : inSec (G ++ [x]) t.pos = inSec G t.pos ++ [x] := by rw [← hxp]; exact inSec_snoc_eq G x
  have hin2 : ∀ k, k ≠ t.pos → inSec (G ++ [x]) k = inSec G k := fun k hk => inSec_snoc_ne G x k (by rw [hxp]; exact hk)
  obtain ⟨c, hc⟩ := h.sc t.pos hp
  by_cases hd : doneB s.out = true
  · have hs : s.write t.pos (cutC (flatB (inSec G t.pos ++ [x])) (flatB (inSec G t.pos ++ [x])).length) = s.take.wrote t.pos (cutC (flatB (inSec G t.pos ++ [x])) (flatB (inSec G t.pos ++ [x])).length) := by unfold St.write; rw [if_pos hd]
    rw [hs]
    obtain ⟨c', hc', htop⟩ := hc.take.put ho.take hp x hxs (by omega)
    have hsc : ∀ k, k < s.n → ∃ c, SecI (s.take.wrote t.pos (cutC (flatB (inSec G t.pos ++ [x])) (flatB (inSec G t.pos ++ [x])).length)) k (inSec (G ++ [x]) k) c := by
      intro k hk
      by_cases e : k = t.pos
      · rw [e, hin]; exact ⟨c', hc'⟩
      · rw [hin2 k e]
        obtain ⟨ck, hck⟩ := h.sc k hk
        exact hck.take.aside ho.take t.pos hp e _ hWl
    have hA : Sv (s.take.wrote t.pos (cutC (flatB (inSec G t.pos ++ [x])) (flatB (inSec G t.pos ++ [x])).length)) (t.added b) (G ++ [x]) :=
      ⟨srt', plc', bd', hsc, fun _ => by
        show sec _ t.pos = cutC (flatB (inSec (G ++ [x]) t.pos)) (flatB (inSec (G ++ [x]) t.pos)).length ∧ (flatB (inSec (G ++ [x]) t.pos)).length = _
        rw [hin]
        refine ⟨?_, hF⟩
        exact sec_splice _ _ t.pos s.n ho.nl hWl hp⟩
    split
    · exact hA
    · have hL := hA.leave
      exact ⟨hL.srt, hL.plc, hL.bd, hL.sc, hL.hr⟩
  · have hs : s.write t.pos (cutC (flatB (inSec G t.pos ++ [x])) (flatB (inSec G t.pos ++ [x])).length) = s.take := by unfold St.write; rw [if_neg hd]
    have he : ¬ errC s.out = 0 := fun e => hd (done_of_err e)
    rw [hs, if_neg he]
    have hxf' : x.fi = false := by rw [hxf]; simp [he]
    have hsc : ∀ k, k < s.n → ∃ c, SecI s.take k (inSec (G ++ [x]) k) c := by
      intro k hk
      by_cases e : k = t.pos
      · rw [e, hin]; exact ⟨c, hc.take.grow x hxf' hxs (by omega)⟩
      · rw [hin2 k e]
        obtain ⟨ck, hck⟩ := h.sc k hk
        exact ⟨ck, hck.take⟩
    refine ⟨srt', fun y hy => ⟨by have := (plc' y hy).1; simp [Sd.leave]; omega, (plc' y hy).2⟩, bd', hsc, fun hp2 => ?_⟩
    have hp2' : t.pos + 1 < s.n := hp2
    have e : inSec (G ++ [x]) (t.pos + 1) = [] := by
      unfold inSec
      rw [List.filter_eq_nil_iff]
      intro y hy
      have := (plc' y hy).1
      simp; omega
    obtain ⟨c2, hc2⟩ := hsc (t.pos + 1) hp2'
    show sec _ (t.pos + 1) = cutC (flatB (inSec (G ++ [x]) (t.pos + 1))) (flatB (inSec (G ++ [x]) (t.pos + 1))).length ∧ (flatB (inSec (G ++ [x]) (t.pos + 1))).length = 0
    rw [e] at hc2 ⊢
    refine ⟨?_, rfl⟩
    rw [hc2.nw]
    exact cut_nil _ hc2.top

theorem Sv.app {s : St} {t : Sd} {G : List Tr} (h : Sv s t G) (ho : s.Ok) (ht : t.Ok s.n) (b : List Int) (hb : isBytes b) : Sv (appS s t b) (appT s t b) (appG s t b G) := by
  unfold appS appT appG
  by_cases hE : frameE b = 0
  · have hE' : ¬ frameE b ≠ 0 := fun e => e hE
    rw [if_neg hE', if_neg hE', if_neg hE']
    have hl : 1 ≤ b.length ∧ b.length ≤ 56 := by
      unfold frameE at hE
      split at hE
      · cases hE
      · split at hE
        · cases hE
        · omega
    obtain ⟨_, f2, _⟩ := ht.fit b hE
    by_cases hn : s.n ≤ (t.fit b).pos
    · rw [if_pos hn, if_pos hn, if_pos hn]; exact h.fit b
    · rw [if_neg hn, if_neg hn, if_neg hn]
      exact (h.fit b).put ho b hb hl.1 hl.2 (by omega) f2
  · rw [if_pos hE, if_pos hE, if_pos hE]; exact h

theorem below_split (G : List Tr) (k : Nat) : G.Pairwise (fun x y => x.pl ≤ y.pl) → (G.filter fun x => decide (x.pl < k + 1)) = (G.filter fun x => decide (x.pl < k)) ++ inSec G k := by
  induction G with
  | nil => intro _; rfl
  | cons x G ih =>
    intro h
    rw [List.pairwise_cons] at h
    have hI := ih h.2
    unfold inSec at hI ⊢
    by_cases h1 : x.pl < k
    · rw [List.filter_cons_of_pos (by simp; omega), List.filter_cons_of_pos (by simp; omega), List.filter_cons_of_neg (by simp; omega), hI, List.cons_append]
    · have hn : (G.filter fun x => decide (x.pl < k)) = [] := by
        rw [List.filter_eq_nil_iff]
        intro y hy
        have := h.1 y hy
        simp; omega
      rw [hn, List.nil_append] at hI
      have hx : (List.filter (fun x : Tr => decide (x.pl < k)) (x :: G)) = [] := by rw [List.filter_cons_of_neg (by simp; omega), hn]
      rw [hx, List.nil_append]
      by_cases h2 : x.pl = k
      · rw [List.filter_cons_of_pos (by simp; omega), List.filter_cons_of_pos (by simp; omega), hI]
      · rw [List.filter_cons_of_neg (by simp; omega), List.filter_cons_of_neg (by simp; omega), hI]

theorem Sv.open {s : St} {t : Sd} {G : List Tr} (h : Sv s t G) (ho : s.Ok) (ch : List Int) : ∀ k, k ≤ s.n → Btw ((openK (s.crash ch).now k).recs.map Prod.snd) (G.filter fun x => decide (x.pl < k)) := by
  intro k
  induction k with
  | zero =>
    intro _
    have : (G.filter fun x => decide (x.pl < 0)) = [] := by rw [List.filter_eq_nil_iff]; intro x _; simp
    rw [this]
    exact .nil
  | succ k ih =>
    intro hk
    rw [below_split G k h.srt]
    have hrec : (openK (s.crash ch).now (k + 1)).recs.map Prod.snd = (openK (s.crash ch).now k).recs.map Prod.snd ++ scanB (sec (s.crash ch).now k) := by
      simp only [openK, List.map_append, List.map_map]
      congr 1
      exact List.map_id _
    rw [hrec]
    refine (ih (by omega)).append ?_
    obtain ⟨c, hc⟩ := h.sc k (by omega)
    obtain ⟨a, ha, h0, h1⟩ := hc.torn ho (by omega) ch s.since.length (Nat.le_refl _)
    have hnow : sec (s.crash ch).now k = cutC (flatB (inSec G k)) a := ha
    rw [hnow]
    unfold cutC
    exact scan_cut _ a _ (fun x hx => h.bd x (List.mem_filter.1 hx).1) (Nat.le_trans h1 hc.top) (hc.usu.le h0)

/-- What is found behind a crash. -/
theorem Sv.found {s : St} {t : Sd} {G : List Tr} (h : Sv s t G) (ho : s.Ok) (ch : List Int) : Btw (bodies (openT (s.crash ch))) G := by
  have := h.open ho ch s.n (Nat.le_refl _)
  have e : (G.filter fun x => decide (x.pl < s.n)) = G := by
    rw [List.filter_eq_self]
    intro x hx
    have := (h.plc x hx).2
    simpa using this
  rwa [e] at this

end Go.Proofs.YtafkkehcacdodaaGreat
