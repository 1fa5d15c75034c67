/- looks: a strand tells what the model says. -/
import Derived.Test.YtafkkehcacdodaaGreatStrRApp
import Derived.Test.YtafkkehcacdodaaGreatStrRSeg
import Derived.Test.YtafkkehcacdodaaGreatStrInts
import Derived.Test.YtafkkehcacdodaaGreatStrSame
set_option maxRecDepth 100000
namespace Go.Proofs.YtafkkehcacdodaaGreat
open Go.RowKit
attribute [local go_sem ↓] Go.wp_at_zero Go.wp_at_succ

theorem rappend_any (w : World) (tag : Nat → Nat) (base o o' : Nat) (ho : o ≠ o') (ho1 : 1 ≤ o) (ho2 : 1 ≤ o') (s : St) (p : ML) (h : MD w tag base o s p) (t : Sd) (q : TL) (M T : Nat) (hM : p.M = M) (hT : q.T = T) (hq : MSt w tag base o' M s.n t q) (hbase : base ≤ w.heap.size) (ht : t.Ok s.n) (v : Value) (b : List Int) (hv : Bts w v b) (hvh : b ≠ [] → Held w tag v b)
    (hops : s.ops ≤ 1000000) (hout : s.outs.length ≤ 1000000) (hsin : s.since.length ≤ 1000000) (hrec : t.recs.length ≤ 900000) :
    Calls Tryz.prog 80 #[.pointer (some ⟨T, 0, none⟩), v] w fun e w' => e = .returned (.int .i64 (appE s t b)) ∧ RAppPost w tag base o o' s M t T b w' := by
  subst hM; subst hT
  by_cases hE : frameE b = 0
  · exact rappend_ok8 w tag base o o' ho ho1 ho2 s p h t q hq hbase ht v b (hvh (fun e => by rw [e] at hE; cases hE)) hE hops hout hsin hrec
  · exact rappend_no w tag base o o' s p h t q hq v b hv hE

theorem rread_okJ (w : World) (tag : Nat → Nat) (base o : Nat) (s : St) (p : ML) (h : MD w tag base o s p) (k : Nat) (hk : k < s.n) (l : List Int) (hl : sec s.now k = l) (M : Nat) (hM : p.M = M) :
    Calls Tryz.prog 73 #[.pointer (some ⟨M, 0, none⟩), .int .i64 k] w fun e w' => ∃ v, e = .returned (.tuple #[v, .int .i64 0]) ∧ Bts w' v l ∧ Below w.heap.size w w' := by
  subst hM; subst hl
  refine (rread_ok w tag base o s p h k hk).mono ?_
  rintro e w' ⟨v, rfl, hO, hB⟩
  exact ⟨v, rfl, hO.bts (sec_bytes h.ok.nb k), hB⟩

end Go.Proofs.YtafkkehcacdodaaGreat
