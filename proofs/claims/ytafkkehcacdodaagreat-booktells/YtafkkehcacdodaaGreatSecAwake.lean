/- The statements' own helpers: ones, fresh, awake. -/
import Derived.Test.YtafkkehcacdodaaGreatSecCrash
set_option maxRecDepth 100000
namespace Go.Proofs.YtafkkehcacdodaaGreat
open Go.RowKit

theorem rep_snoc (k : Nat) (c : Int) : List.replicate (k + 1) c = List.replicate k c ++ [c] := by
  rw [List.replicate_succ']

theorem isBytes_rep (k : Nat) (c : Int) (h : 0 ≤ c ∧ c < 256) : isBytes (List.replicate k c) := fun z hz => by
  rw [List.eq_of_mem_replicate hz]; exact h

/-- Tags below a number alone. -/
def clip (tag : Nat → Nat) (N : Nat) : Nat → Nat := fun k => if k < N then tag k else 0

theorem clip_lt (tag : Nat → Nat) (N k : Nat) (h : k < N) : clip tag N k = tag k := by simp [clip, h]

theorem PD.clip {w w' : World} {tag : Nat → Nat} {base o : Nat} {s : St} {p : PL} (h : PD w tag base o s p) (hb : Below w.heap.size w w') : PD w' (clip tag w.heap.size) base o s p :=
  h.keep (fun k hk _ => hb.block k hk) (fun k hk => clip_lt tag _ k hk)

theorem Owns.tag0 {w : World} {N : Nat} {v : Value} {l : List Int} (h : Owns w N v l) (tag : Nat → Nat) (o : Nat) (ho : 1 ≤ o) : ∀ g, v.ownBlock = some g → clip tag N g / 16 ≠ o := fun g hg => by
  have := (h.lt g hg).1
  simp [clip, Nat.not_lt.2 this]; omega

theorem blk_bts {w : World} {g : Nat} {l : List Int} (h : Blk w g (bytesV l)) (hb : isBytes l) (hl : l.length ≤ maxLen) : Bts w (.slice (some ⟨g, 0, none⟩) l.length l.length) l :=
  ⟨_, _, g, 0, rfl, Nat.le_refl _, hl, hb, .inl rfl, fun i hi => by rw [Nat.zero_add, h.cell]; simp [List.getElem?_eq_getElem hi]⟩

/-- What Read answers, as bytes. -/
theorem read_bts (w w' : World) (l : List Int) (t : TypeId) (h : Below (w.alloc (.cells (bytesV l).toArray t)).heap.size (w.alloc (.cells (bytesV l).toArray t)) w') (hl : l.length = 64) (hb : isBytes l) : Bts w' (.slice (some ⟨w.heap.size, 0, none⟩) 64 64) l := by
  have := blk_bts ((blk_new w (bytesV l).toArray t).later h) hb (by rw [hl]; decide)
  rwa [hl] at this

theorem sameB_self (l : List Int) : sameB l l = true := by simp [sameB]

theorem sec_bytes {l : List Int} (h : isBytes l) (k : Nat) : isBytes (sec l k) := fun z hz => h z (List.mem_of_mem_drop (List.mem_of_mem_take hz))

theorem sec_splice (l b : List Int) (k n : Nat) (hl : l.length = n * 64) (hb : b.length = 64) (hk : k < n) : sec (splice l (k * 64) b) k = b := by
  have := splice_mid l b (k * 64) (by omega)
  rw [hb] at this
  exact this

theorem new_out (n : Nat) : (St.new n).out = 0 := rfl
theorem done0 : doneB 0 = true := by decide
theorem err0 : errC 0 = 0 := by decide

theorem write_okI (w : World) (tag : Nat → Nat) (base o : Nat) (s : St) (p : PL) (h : PD w tag base o s p) (hbase : base ≤ w.heap.size) (K : Int) (k : Nat) (hK : K = k) (hk : k < s.n) (v : Value) (l : List Int) (hv : Bts w v l) (hl : l.length = 64)
    (hvo : ∀ g, v.ownBlock = some g → tag g / 16 ≠ o) (hops : s.ops ≤ 1000000) (hout : s.outs.length ≤ 1000000) (hsin : s.since.length ≤ 1000000) (E : Int) (hE : errC s.out = E) :
    Calls Tryz.prog 110 #[.pointer (some ⟨p.D, 0, none⟩), .int .i64 K, v] w fun e w' => e = .returned (.int .i64 E) ∧ ∃ p' tag', p'.D = p.D ∧ PD w' tag' base o (s.write k l) p' ∧ Step tag tag' base o w w' := by
  subst hK; subst hE
  exact write_ok w tag base o s p h hbase k hk v l hv hl hvo hops hout hsin

theorem read_okI (w : World) (tag : Nat → Nat) (base o : Nat) (s : St) (p : PL) (h : PD w tag base o s p) (K : Int) (k : Nat) (hK : K = k) (hk : k < s.n) (l : List Int) (hl : sec s.now k = l) :
    Calls Tryz.prog 63 #[.pointer (some ⟨p.D, 0, none⟩), .int .i64 K] w fun e w' => ∃ v, e = .returned (.tuple #[v, .int .i64 0]) ∧ Bts w' v l ∧ (∀ g, v.ownBlock = some g → w.heap.size ≤ g) ∧ Below w.heap.size w w' := by
  subst hK; subst hl
  refine (read_ok w tag base o s p h k hk).mono ?_
  rintro e w' ⟨rfl, rfl⟩
  refine ⟨_, rfl, read_bts w _ _ _ (Below.refl _ _) (sec_len h.ok.nl hk) (sec_bytes h.ok.nb k), fun g hg => ?_, below_alloc _ _⟩
  simp [Value.ownBlock] at hg; omega

theorem write_done_eq {s : St} (h : s.out = 0) (k : Nat) (l : List Int) : s.write k l = s.take.wrote k l := by
  unfold St.write; rw [h, if_pos done0]

theorem below_drewN (w : World) (n : Nat) : Below w.heap.size w (w.drewN n) := ⟨rfl, rfl, rfl, Nat.le_refl _, fun _ _ => rfl⟩

end Go.Proofs.YtafkkehcacdodaaGreat
