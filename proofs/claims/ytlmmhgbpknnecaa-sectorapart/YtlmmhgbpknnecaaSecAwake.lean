/- The statements' own helpers: ones, fresh, awake. -/
import Derived.Test.YtlmmhgbpknnecaaSecCrash
set_option maxRecDepth 100000
namespace Go.Proofs.Ytlmmhgbpknnecaa
open Go.RowKit

theorem rep_snoc (k : Nat) (c : Int) : List.replicate (k + 1) c = List.replicate k c ++ [c] := by
  rw [List.replicate_succ']

theorem isBytes_rep (k : Nat) (c : Int) (h : 0 ≤ c ∧ c < 256) : isBytes (List.replicate k c) := fun z hz => by
  rw [List.eq_of_mem_replicate hz]; exact h

set_option maxHeartbeats 1000000 in
theorem ones_ok (w : World) (c : Int) : Calls Try.prog 12 #[.int .u8 c] w fun e w' => ∃ v, e = .returned v ∧ Owns w' w.heap.size v (List.replicate 64 c) ∧ Below w.heap.size w w' := by
  obtain ⟨i0, hi, hz0, hz1, hz2⟩ := info_parts info5
  go_enter Try.func12, Try.ntmps12
  go_wp2
  go_loopw [3, 4] (fun v i wr => ∃ k : Nat, k ≤ 64 ∧ i = .int .i64 k ∧ Owns wr w.heap.size v (List.replicate k c) ∧ Below w.heap.size w wr) (fun _ i _ => 64 - (intOf i).toNat)
  case atStart => exact ⟨0, Nat.zero_le _, rfl, World.ownsRow_nil _ _ _ _, Below.refl _ _⟩
  case round =>
    obtain ⟨k, hk, rfl, hown, hbel⟩ := hrel
    by_cases hlt : k < 64
    · have hltI : (k : Int) < 64 := by omega
      have hsz := hbel.size
      have htl : Hid ((List.replicate k c).length = k) := List.length_replicate
      have hown2 : (wr.alloc (.cells #[.int .u8 c] 5)).ownsRow w.heap.size 5 1 _ (List.replicate k c).length ((List.replicate k c).map (Value.int .u8)) := World.ownsRow.alloc hown _
      go_wp2_with (at_builtin; refine wpList_append_own _ rfl _ _ 27 rfl w.heap.size 5 i0 (.int .u8 0) 1 1 Try.underlying27 hi hz0 hz1 hz2 rfl (by decide) _ _ _ rfl hown2 ⟨wr.heap.size, 0, none⟩ 1 1 [.int .u8 c] rfl rfl ?c1 ?c2 ?c3 ?c4 ?c5 ?_)
      case c1 =>
        intro j u hj
        match j, hj with
        | 0, hj => simp at hj; subst hj; simp [Addr.add]
      case c2 => intro u hu; simp at hu; subst hu; rfl
      case c3 => rw [htl.out]; unfold maxLen; omega
      case c4 => rw [htl.out]; omega
      case c5 => simp; omega
      intro v' w1 hown' hgrow _
      have R1 : Owns w1 w.heap.size v' (List.replicate (k + 1) c) := by
        unfold Owns; rw [rep_snoc]; simpa using hown'
      have R2 : Below w.heap.size w w1 := by
        refine (hbel.alloc hsz _).grown hgrow (by simp; omega) ?_
        intro j hj
        exact (hown.lt j hj).1
      clear hown' hgrow hown2
      go_wp2
      go_roundw
      case rel => exact ⟨k + 1, by omega, by go_num, R1, R2⟩
      case measure => simp [intOf]; omega
    · have hke : k = 64 := by omega
      subst hke
      have hge : (64 : Int) ≤ ((64 : Nat) : Int) := by omega
      go_wp2
      go_ret
      exact ⟨_, rfl, hown, hbel⟩

set_option maxHeartbeats 1000000 in
theorem fresh_ok (w : World) (tag : Nat → Nat) (base o n : Nat) (N : Int) (hN : N = n) (hbase : base ≤ w.heap.size) (h1 : 1 ≤ n) (h2 : n ≤ 4096) :
    Calls Try.prog 10 #[.int .i64 N] w fun e w' => ∃ p tag', e = .returned (.pointer (some ⟨p.D, 0, none⟩)) ∧ PD w' tag' base o (St.new n) p ∧ (∀ k, k < w.heap.size → tag' k = tag k) ∧ Below w.heap.size w w' := by
  subst hN
  have HN := new_ok w tag base o n hbase h1 h2
  go_enter Try.func10, Try.ntmps10
  go_wp2_with (go_at_call 17; refine HN.mono ?_; rintro e w' ⟨p, tag', rfl, hP, hT, hB⟩)
  go_ret
  exact ⟨p, tag', rfl, hP, hT, hB⟩

/-- Tags below a number alone. -/
def clip (tag : Nat → Nat) (N : Nat) : Nat → Nat := fun k => if k < N then tag k else 0

theorem clip_lt (tag : Nat → Nat) (N k : Nat) (h : k < N) : clip tag N k = tag k := by simp [clip, h]

theorem PD.clip {w w' : World} {tag : Nat → Nat} {base o : Nat} {s : St} {p : PL} (h : PD w tag base o s p) (hb : Below w.heap.size w w') : PD w' (clip tag w.heap.size) base o s p :=
  h.keep (fun k hk _ => hb.block k hk) (fun k hk => clip_lt tag _ k hk)

theorem Owns.tag0 {w : World} {N : Nat} {v : Value} {l : List Int} (h : Owns w N v l) (tag : Nat → Nat) (o : Nat) (ho : 1 ≤ o) : ∀ g, v.ownBlock = some g → clip tag N g / 16 ≠ o := fun g hg => by
  have := (h.lt g hg).1
  simp [clip, Nat.not_lt.2 this]; omega

theorem same_one (w : World) (v v' : Value) (l m : List Int) (h : Bts w v l) (h' : Bts w v' m) : Calls Try.prog 18 #[v, v'] w fun e w' => e = .returned (.bool (sameB l m)) ∧ ∃ nq, w' = w.drewN nq := by
  obtain ⟨a, c, b, off, rfl, h1, h2, h3, h4, h5⟩ := h
  obtain ⟨a', c', b', off', rfl, h1', h2', h3', h4', h5'⟩ := h'
  exact same_any a a' b off b' off' c c' l m l.length m.length w rfl rfl (Nat.le_trans h1 h2) (Nat.le_trans h1' h2') h4 h5 h4' h5'

theorem blk_bts {w : World} {g : Nat} {l : List Int} (h : Blk w g (bytesV l)) (hb : isBytes l) (hl : l.length ≤ maxLen) : Bts w (.slice (some ⟨g, 0, none⟩) l.length l.length) l :=
  ⟨_, _, g, 0, rfl, Nat.le_refl _, hl, hb, .inl rfl, fun i hi => by rw [Nat.zero_add, h.cell]; simp [List.getElem?_eq_getElem hi]⟩

/-- What Read answers, as bytes. -/
theorem read_bts (w w' : World) (l : List Int) (t : TypeId) (h : Below (w.alloc (.cells (bytesV l).toArray t)).heap.size (w.alloc (.cells (bytesV l).toArray t)) w') (hl : l.length = 64) (hb : isBytes l) : Bts w' (.slice (some ⟨w.heap.size, 0, none⟩) 64 64) l := by
  have := blk_bts ((blk_new w (bytesV l).toArray t).later h) hb (by rw [hl]; decide)
  rwa [hl] at this

theorem sameB_self (l : List Int) : sameB l l = true := by simp [sameB]

theorem sec_bytes {l : List Int} (h : isBytes l) (k : Nat) : isBytes (sec l k) := fun z hz => h z (List.mem_of_mem_drop (List.mem_of_mem_take hz))

theorem sec_splice (l b : List Int) (k n : Nat) (hl : l.length = n * 64) (hb : b.length = 64) (hk : k < n) : sec (splice l (k * 64) b) k = b := by
  have := splice_mid l b (k * 64) (by omega)
  rw [hb] at this
  exact this

theorem new_out (n : Nat) : (St.new n).out = 0 := rfl
theorem done0 : doneB 0 = true := by decide
theorem err0 : errC 0 = 0 := by decide

theorem write_okI (w : World) (tag : Nat → Nat) (base o : Nat) (s : St) (p : PL) (h : PD w tag base o s p) (hbase : base ≤ w.heap.size) (K : Int) (k : Nat) (hK : K = k) (hk : k < s.n) (v : Value) (l : List Int) (hv : Bts w v l) (hl : l.length = 64)
    (hvo : ∀ g, v.ownBlock = some g → tag g / 16 ≠ o) (hops : s.ops ≤ 1000000) (hout : s.outs.length ≤ 1000000) (hsin : s.since.length ≤ 1000000) (E : Int) (hE : errC s.out = E) :
    Calls Try.prog 11 #[.pointer (some ⟨p.D, 0, none⟩), .int .i64 K, v] w fun e w' => e = .returned (.int .i64 E) ∧ ∃ p' tag', p'.D = p.D ∧ PD w' tag' base o (s.write k l) p' ∧ Step tag tag' base o w w' := by
  subst hK; subst hE
  exact write_ok w tag base o s p h hbase k hk v l hv hl hvo hops hout hsin

theorem read_okI (w : World) (tag : Nat → Nat) (base o : Nat) (s : St) (p : PL) (h : PD w tag base o s p) (K : Int) (k : Nat) (hK : K = k) (hk : k < s.n) (l : List Int) (hl : sec s.now k = l) :
    Calls Try.prog 14 #[.pointer (some ⟨p.D, 0, none⟩), .int .i64 K] w fun e w' => ∃ v, e = .returned (.tuple #[v, .int .i64 0]) ∧ Bts w' v l ∧ (∀ g, v.ownBlock = some g → w.heap.size ≤ g) ∧ Below w.heap.size w w' := by
  subst hK; subst hl
  refine (read_ok w tag base o s p h k hk).mono ?_
  rintro e w' ⟨rfl, rfl⟩
  refine ⟨_, rfl, read_bts w _ _ _ (Below.refl _ _) (sec_len h.ok.nl hk) (sec_bytes h.ok.nb k), fun g hg => ?_, below_alloc _ _⟩
  simp [Value.ownBlock] at hg; omega

theorem write_done_eq {s : St} (h : s.out = 0) (k : Nat) (l : List Int) : s.write k l = s.take.wrote k l := by
  unfold St.write; rw [h, if_pos done0]

theorem dirty_okI (w : World) (tag : Nat → Nat) (base o : Nat) (s : St) (p : PL) (h : PD w tag base o s p) (D : Nat) (hD : p.D = D) (N : Int) (hN : (s.since.length : Int) = N) :
    Calls Try.prog 27 #[.pointer (some ⟨D, 0, none⟩)] w fun e w' => e = .returned (.int .i64 N) ∧ w' = w := by
  subst hD; subst hN
  exact dirty_ok w tag base o s p h

theorem below_drewN (w : World) (n : Nat) : Below w.heap.size w (w.drewN n) := ⟨rfl, rfl, rfl, Nat.le_refl _, fun _ _ => rfl⟩

set_option maxHeartbeats 4000000 in
theorem awake7_ok (w : World) : Calls Try.prog 9 #[] w fun e w' => e = .returned (.bool true) ∧ Below w.heap.size w w' := by
  have HF := fresh_ok w (fun _ => 0) w.heap.size 1 2 2 rfl (Nat.le_refl _) (by omega) (by omega)
  go_enter Try.func9, Try.ntmps9
  go_wp2_with (go_at_call 10; refine HF.mono ?_; rintro e w1 ⟨p, tag, rfl, hP, hT, hB⟩)
  refine (ones_ok w1 5).mono ?_
  rintro e w2 ⟨v, rfl, hO, hB2⟩
  have hb5 : isBytes (List.replicate 64 (5 : Int)) := isBytes_rep _ _ (by decide)
  have HW := write_okI w2 (clip tag w1.heap.size) w.heap.size 1 (St.new 2) p (hP.clip hB2) (Nat.le_trans hB.size hB2.size) 1 1 rfl (by decide) v (List.replicate 64 5) (hO.bts hb5) (by decide) (hO.tag0 tag 1 (by omega)) (by decide) (by decide) (by decide) 0 rfl
  have hB02 : Below w.heap.size w w2 := hB.trans (hB2.mono hB.size)
  clear hP hT hO hB hB2 HF
  go_wp2_with (go_at_call 11; refine HW.mono ?_; rintro e w3 ⟨rfl, p3, tag3, hD3, hP3, hS3⟩)
  rw [write_done_eq (new_out 2)] at hP3
  have HR := read_okI w3 tag3 w.heap.size 1 _ p3 hP3 1 1 rfl (by decide) (List.replicate 64 5) (sec_splice _ _ 1 2 (by simp [St.take, St.new, zeros]) (by decide) (by omega))
  rw [hD3] at HR
  have hB03 : Below w.heap.size w w3 := hB02.trans hS3.below
  clear HW hS3 hB02
  refine HR.mono ?_
  rintro e w4 ⟨u, rfl, hU, _, hB4⟩
  have hP4 := hP3.later hB4
  have hB04 : Below w.heap.size w w4 := hB03.trans (hB4.mono hB03.size)
  clear HR hP3 hB4 hB03
  go_wp2_with fail
  refine (ones_ok w4 5).mono ?_
  rintro e w5 ⟨v5, rfl, hO5, hB5⟩
  have HS := same_one w5 u v5 _ _ (hU.later hB5) (hO5.bts hb5)
  rw [sameB_self] at HS
  have hP5 := hP4.later hB5
  have hB05 : Below w.heap.size w w5 := hB04.trans (hB5.mono hB04.size)
  clear hU hO5 hB5 hB04 hP4
  go_wp2_with fail
  refine HS.mono ?_
  rintro e w6 ⟨rfl, nq, rfl⟩
  have HD := dirty_okI (w5.drewN nq) tag3 w.heap.size 1 _ p3 (hP5.later (below_drewN _ _)) p.D hD3 1 rfl
  clear HS hP5
  go_wp2_with fail
  refine HD.mono ?_
  rintro e w7 ⟨rfl, rfl⟩
  go_wp2_with fail
  go_ret
  exact ⟨rfl, hB05.trans ((below_drewN _ _).mono hB05.size)⟩

end Go.Proofs.Ytlmmhgbpknnecaa
