/- Disks and bytes held side by side: what the statements' walks carry from call to call. -/
import Derived.Test.YtafkkehcacdodaaGreatSecAwake
set_option maxRecDepth 100000
namespace Go.Proofs.YtafkkehcacdodaaGreat
open Go.RowKit

theorem sync_okD (w : World) (tag : Nat → Nat) (base o : Nat) (s : St) (p : PL) (h : PD w tag base o s p) (hbase : base ≤ w.heap.size) (hops : s.ops ≤ 1000000) (hout : s.outs.length ≤ 1000000) (hsin : s.since.length ≤ 1000000) (D : Nat) (hD : p.D = D) (E : Int) (hE : errC s.out = E) :
    Calls Tryz.prog 112 #[.pointer (some ⟨D, 0, none⟩)] w fun e w' => e = .returned (.int .i64 E) ∧ ∃ p', p'.D = D ∧ PD w' tag base o s.sync p' ∧ Step tag tag base o w w' := by
  subst hD; subst hE
  exact sync_ok w tag base o s p h hbase hops hout hsin

theorem crash_okD (w : World) (tag : Nat → Nat) (base o o' : Nat) (s : St) (p : PL) (h : PD w tag base o s p) (hbase : base ≤ w.heap.size) (hsin : s.since.length ≤ 1000000) (v : Value) (ch : List Int) (hv : Bts w v ch) (D : Nat) (hD : p.D = D) :
    Calls Tryz.prog 13 #[.pointer (some ⟨D, 0, none⟩), v] w fun e w' => ∃ p2 tag', e = .returned (.pointer (some ⟨p2.D, 0, none⟩)) ∧ PD w' tag' base o' (s.crash ch) p2 ∧ (∀ k, k < w.heap.size → tag' k = tag k) ∧ Below w.heap.size w w' := by
  subst hD
  exact crash_ok w tag base o o' s p h hbase hsin v ch hv

theorem outcomes_okD (w : World) (tag : Nat → Nat) (base o : Nat) (s : St) (p : PL) (h : PD w tag base o s p) (hbase : base ≤ w.heap.size) (v : Value) (l : List Int) (hv : Bts w v l) (hout : s.outs.length + l.length ≤ 1000000) (D : Nat) (hD : p.D = D) :
    Calls Tryz.prog 11 #[.pointer (some ⟨D, 0, none⟩), v] w fun e w' => e = .returned (.tuple #[]) ∧ ∃ p' tag', p'.D = D ∧ PD w' tag' base o (s.add l) p' ∧ Step tag tag' base o w w' := by
  subst hD
  exact outcomes_ok w tag base o s p h hbase v l hv hout

theorem write_okD (w : World) (tag : Nat → Nat) (base o : Nat) (s : St) (p : PL) (h : PD w tag base o s p) (hbase : base ≤ w.heap.size) (K : Int) (k : Nat) (hK : K = k) (hk : k < s.n) (v : Value) (l : List Int) (hv : Bts w v l) (hl : l.length = 64)
    (hvo : ∀ g, v.ownBlock = some g → tag g / 16 ≠ o) (hops : s.ops ≤ 1000000) (hout : s.outs.length ≤ 1000000) (hsin : s.since.length ≤ 1000000) (E : Int) (hE : errC s.out = E) (D : Nat) (hD : p.D = D) :
    Calls Tryz.prog 110 #[.pointer (some ⟨D, 0, none⟩), .int .i64 K, v] w fun e w' => e = .returned (.int .i64 E) ∧ ∃ p' tag', p'.D = D ∧ PD w' tag' base o (s.write k l) p' ∧ Step tag tag' base o w w' := by
  subst hD
  exact write_okI w tag base o s p h hbase K k hK hk v l hv hl hvo hops hout hsin E hE

theorem read_okD (w : World) (tag : Nat → Nat) (base o : Nat) (s : St) (p : PL) (h : PD w tag base o s p) (K : Int) (k : Nat) (hK : K = k) (hk : k < s.n) (l : List Int) (hl : sec s.now k = l) (D : Nat) (hD : p.D = D) :
    Calls Tryz.prog 63 #[.pointer (some ⟨D, 0, none⟩), .int .i64 K] w fun e w' => ∃ g, e = .returned (.tuple #[.slice (some ⟨g, 0, none⟩) 64 64, .int .i64 0]) ∧ Bts w' (.slice (some ⟨g, 0, none⟩) 64 64) l ∧ w.heap.size ≤ g ∧ g < w'.heap.size ∧ Below w.heap.size w w' := by
  subst hK; subst hl; subst hD
  refine (read_ok w tag base o s p h k hk).mono ?_
  rintro e w' ⟨rfl, rfl⟩
  exact ⟨_, rfl, read_bts w _ _ _ (Below.refl _ _) (sec_len h.ok.nl hk) (sec_bytes h.ok.nb k), Nat.le_refl _, by simp, below_alloc _ _⟩

/-- Bytes in memory that is no disk's. -/
def Held (w : World) (tag : Nat → Nat) (v : Value) (l : List Int) : Prop := Bts w v l ∧ ∀ g, v.ownBlock = some g → tag g = 0 ∧ g < w.heap.size

theorem Held.alloc {w w' : World} {tag : Nat → Nat} {v : Value} {l : List Int} (h : Held w tag v l) (hB : Below w.heap.size w w') : Held w' (clip tag w.heap.size) v l :=
  ⟨h.1.later hB, fun g hg => ⟨by rw [clip_lt _ _ _ (h.2 g hg).2]; exact (h.2 g hg).1, Nat.lt_of_lt_of_le (h.2 g hg).2 hB.size⟩⟩

theorem Held.step {w w' : World} {tag tag' : Nat → Nat} {base o : Nat} {v : Value} {l : List Int} (h : Held w tag v l) (hS : Step tag tag' base o w w') (ho : 1 ≤ o) : Held w' tag' v l :=
  ⟨bts_other h.1 hS (fun g hg => by rw [(h.2 g hg).1]; omega), fun g hg => ⟨by rw [hS.tags g (h.2 g hg).2]; exact (h.2 g hg).1, Nat.lt_of_lt_of_le (h.2 g hg).2 hS.below.size⟩⟩

theorem held_new {w w' : World} {tag : Nat → Nat} {v : Value} {l : List Int} (h : Bts w' v l) (hg : ∀ g, v.ownBlock = some g → w.heap.size ≤ g ∧ g < w'.heap.size) : Held w' (clip tag w.heap.size) v l :=
  ⟨h, fun g hgg => ⟨by simp [clip, Nat.not_lt.2 (hg g hgg).1], (hg g hgg).2⟩⟩

theorem Owns.held {w w' : World} {tag : Nat → Nat} {v : Value} {l : List Int} (h : Owns w' w.heap.size v l) (hb : isBytes l) : Held w' (clip tag w.heap.size) v l := held_new (h.bts hb) (fun g hg => h.lt g hg)

theorem Held.far {w : World} {tag : Nat → Nat} {v : Value} {l : List Int} (h : Held w tag v l) (o : Nat) (ho : 1 ≤ o) : ∀ g, v.ownBlock = some g → tag g / 16 ≠ o := fun g hg => by rw [(h.2 g hg).1]; omega

theorem held_read {w w' : World} {tag : Nat → Nat} {g : Nat} {l : List Int} (h : Bts w' (.slice (some ⟨g, 0, none⟩) 64 64) l) (h1 : w.heap.size ≤ g) (h2 : g < w'.heap.size) : Held w' (clip tag w.heap.size) (.slice (some ⟨g, 0, none⟩) 64 64) l :=
  held_new h (fun q hq => by simp [Value.ownBlock] at hq; subst hq; exact ⟨h1, h2⟩)

theorem Held.cell {w : World} {tag : Nat → Nat} {g : Nat} {l : List Int} (h : Held w tag (.slice (some ⟨g, 0, none⟩) 64 64) l) (k : Nat) (hk : k < l.length) : w.cell? ⟨g, k, none⟩ = some (.int .u8 (l.getD k 0)) := by
  obtain ⟨a, cap, b, off, hv, _, _, _, ha, hs⟩ := h.1
  simp only [Value.slice.injEq] at hv
  rcases ha with rfl | hnil
  · have := hv.1
    simp only [Option.some.injEq, Addr.mk.injEq, and_true] at this
    obtain ⟨rfl, rfl⟩ := this
    simpa using hs k hk
  · rw [hnil] at hk; simp at hk

end Go.Proofs.YtafkkehcacdodaaGreat
