/- One step after the other, the first error ends it: need, the deferred function, take. -/
import Derived.Test.YtafkkehcacdodaaGreatM2
import Derived.Test.YtafkkehcacdodaaGreatM5
import Derived.Deep.LoopGhost
import Derived.Shelf.Abstract
set_option maxRecDepth 100000
namespace Go.Proofs.YtafkkehcacdodaaGreat
open Go.RowKit Go.Shelf

theorem need_no (w : World) : Calls Tryz.prog 88 #[.int .i64 0] w fun e w' => e = .returned (.tuple #[]) ∧ w' = w := by
  go_enter Tryz.func88, Tryz.ntmps88
  go_wp2
  go_end0
  exact ⟨rfl, rfl⟩

theorem need_yes (x : Int) (w : World) (hx : x ≠ 0) : Calls Tryz.prog 88 #[.int .i64 x] w fun e w' => e = .panicked (chainOf x) ∧ w' = w := by
  go_enter Tryz.func88, Tryz.ntmps88
  go_wp2
  exact ⟨rfl, rfl, rfl⟩

theorem frame_t (a : Value) : (#[a] ++ Array.replicate (Tryz.f86.ntmps - #[a].size) undef : Array Value) = #[a, undef, undef, undef, undef, undef, undef] := by rw [Tryz.ntmps86]; rfl

set_option maxHeartbeats 1000000 in
theorem tcatch_panicking (b : Nat) (x : Int) (v0 : Value) (w : World) (hc : w.cell? ⟨b, 0, none⟩ = some v0) (hz : w.frozen? ⟨b, 0, none⟩ = false) :
    CallsD Tryz.prog 86 #[.pointer (some ⟨b, 0, none⟩)] (.panicking (chainOf x)) w fun e u' w' =>
      e = .returned (.tuple #[]) ∧ u' = .panicking [{ v := .iface 26 (.int .i64 x), recovered := true }] ∧ w' = w.setCell ⟨b, 0, none⟩ (.int .i64 x) := by
  have ha := assert_errno
  refine callsD_of_wpS Tryz.func86 rfl fun c₀ cs hu => ?_
  rw [frame_t]
  apply wpS_seq
  apply wpS_region
  simp [wpOpsS, go_sem, recoverD, hu, chainOf, Exit.thenS]
  refine wpS_of_wp ?_
  go_wp2
  show bodyPostS _ _ _ _ _ _ _ _ _
  simp [bodyPostS, results, Tryz.results86, go_sem]

theorem tcatch_idle (p : Addr) (w : World) :
    CallsD Tryz.prog 86 #[.pointer (some p)] .returning w fun e u' w' => e = .returned (.tuple #[]) ∧ u' = .returning ∧ w' = w := by
  refine callsD_of_wpS Tryz.func86 rfl fun c₀ cs hu => ?_
  rw [frame_t]
  apply wpS_seq
  apply wpS_region
  simp [wpOpsS, go_sem, recoverD, hu, Exit.thenS]
  refine wpS_of_wp ?_
  go_wp2
  cases c₀
  simp_all [bodyPostS, results, Tryz.results86]

/-- Steps in a row: functions bound to a book, each called with the same entries. -/
structure Steps9 (n : Nat) (fs : Nat → Nat) (p lv : Value) (cellE : Nat) (SB : Nat) (I : Nat → World → Prop) (E : Int → World → Prop) : Prop where
  cell : ∀ j, j < n → ∀ w, I j w → w.cell? ⟨SB, j, none⟩ = some (.func (.func (fs j)) #[p] #[])
  ent : ∀ j, j < n → ∀ (args : Array Value) (w : World), (callFunc (fs j) args).run Tryz.prog w = .ok (.enter (fs j) args) w
  step : ∀ j, j < n → ∀ w, I j w → Calls Tryz.prog (fs j) #[p, lv] w fun e w' => (e = .returned (.tuple #[]) ∧ I (j + 1) w') ∨ ∃ x, e = .panicked (chainOf x) ∧ x ≠ 0 ∧ E x w'
  cE : ∀ j, j ≤ n → ∀ w, I j w → w.cell? ⟨cellE, 0, none⟩ = some (.int .i64 0) ∧ w.frozen? ⟨cellE, 0, none⟩ = false
  eE : ∀ x w, E x w → w.cell? ⟨cellE, 0, none⟩ = some (.int .i64 0) ∧ w.frozen? ⟨cellE, 0, none⟩ = false

set_option maxHeartbeats 2000000 in
theorem btake_any (n : Nat) (cap : Nat) (hcap : n ≤ cap) (hm : cap ≤ maxLen) (fs : Nat → Nat) (p lv : Value) (SB : Nat) (w : World) (I : Nat → World → Prop) (E : Int → World → Prop) (hS : Steps9 n fs p lv w.heap.size SB I E) (h0 : I 0 (w.alloc (.cells #[.int .i64 0] 26))) :
    Calls Tryz.prog 49 #[lv, .slice (some ⟨SB, 0, none⟩) n cap] w fun e w' => ∃ x W, e = .returned (.int .i64 x) ∧ w' = W.setCell ⟨w.heap.size, 0, none⟩ (.int .i64 x) ∧ ((x = 0 ∧ I n W) ∨ (x ≠ 0 ∧ E x W)) := by
  have hmf : ∀ (fn : Fn) (first cap : Array Value) (w : World), (Instr.makeFunc fn first cap).run Tryz.prog w = .ok (.func fn first cap) w := fun _ _ _ _ => rfl
  have HS : Hid (Steps9 n fs p lv w.heap.size SB I E) := hS
  have H0 : Hid (I 0 (w.alloc (.cells #[.int .i64 0] 26))) := h0
  clear hS h0
  unfold maxLen at hm
  go_enter_defers Tryz.func49, Tryz.ntmps49
  go_wp2_with fail
  go_loopg [10] n (fun gk i wr => ∃ k : Nat, k + gk = n ∧ i = .int .i64 k ∧ I k wr)
  case atStart => exact ⟨0, by omega, rfl, H0.out⟩
  case round =>
    obtain ⟨k, hk, rfl, hI⟩ := hrel
    by_cases hlt : k < n
    case neg =>
      have hge : ¬ (k : Int) < (n : Int) := by omega
      have hkn : k = n := by omega
      obtain ⟨c1, f1⟩ := HS.out.cE k (by omega) _ hI
      have HI : Hid (I n wr) := by rw [← hkn]; exact hI
      have HSz : Hid (wr.cell? ⟨w.heap.size, 0, none⟩ = some (.int .i64 0)) := c1
      go_wp2_with fail
      refine leaves_cons (f := 86) (args := #[.pointer (some ⟨w.heap.size, 0, none⟩)]) (by simp) (by simp [go_sem]) ?_
      refine (tcatch_idle _ _).mono ?_
      rintro e u' w5 ⟨rfl, rfl, rfl⟩
      simp [Leaves, settle, results, Tryz.results49, go_sem, c1]
      exact ⟨_, rfl, HI.out⟩
    have hltI : (k : Int) < (n : Int) := by omega
    have hc := HS.out.cell k hlt _ hI
    have hE := HS.out.ent k hlt
    have hcall := HS.out.step k hlt _ hI
    go_wp2_with fail
    refine hcall.mono ?_
    rintro e w1 (⟨rfl, hI1⟩ | ⟨x, rfl, hx, hE1⟩)
    · go_wp2
      go_roundg (n - (k + 1))
      case rel => exact ⟨k + 1, by omega, by go_num, hI1⟩
      case measure => omega
    · obtain ⟨c1, f1⟩ := HS.out.eE x _ hE1
      go_wp2_with fail
      refine leaves_cons (f := 86) (args := #[.pointer (some ⟨w.heap.size, 0, none⟩)]) (by simp) (by simp [go_sem]) ?_
      refine (tcatch_panicking w.heap.size x _ _ c1 f1).mono ?_
      rintro e u' w2 ⟨rfl, rfl, rfl⟩
      simp [Leaves, settle, results, Tryz.results49, go_sem, c1]
      exact ⟨_, rfl, .inr ⟨hx, hE1⟩⟩

end Go.Proofs.YtafkkehcacdodaaGreat
