/- The contracts of limit, totalOf, lay, flag and examine. -/
import Derived.Test.YtkclbmhhlpdcnaaDoorPut
import Derived.Test.YtkclbmhhlpdcnaaDoorRefuse
import Derived.Test.YtkclbmhhlpdcnaaDoorIpMath
set_option maxRecDepth 100000
namespace Go.Proofs.YtkclbmhhlpdcnaaDoor
open Go.RowKit

theorem limit_in (x m : Int) (w : World) (h : inB x m) : Calls Tryd.prog 24 #[.int .i64 x, .int .i64 m] w fun e w' => e = .returned (.tuple #[]) ∧ w' = w := by
  obtain ⟨h0, h1⟩ := h
  go_enter Tryd.func24, Tryd.ntmps24
  go_wp2_with fail
  refine (refuse_no' _ _ _ (by simp; omega)).mono ?_
  rintro e w' ⟨rfl, rfl⟩
  go_wp2
  go_end0
  exact ⟨rfl, rfl⟩

theorem limit_out (x m : Int) (w : World) (h : ¬ inB x m) : Calls Tryd.prog 24 #[.int .i64 x, .int .i64 m] w fun e w' => e = .panicked (chainOf 1) ∧ w' = w := by
  unfold inB at h
  by_cases h0 : x < 0
  · clear h
    go_enter Tryd.func24, Tryd.ntmps24
    go_wp2_with fail
    refine (refuse_yes' _ _ _ (by simp [*])).mono ?_
    rintro e w' ⟨rfl, rfl⟩
    exact ⟨rfl, rfl, rfl⟩
  · have h1 : m < x := by omega
    clear h
    go_enter Tryd.func24, Tryd.ntmps24
    go_wp2_with fail
    refine (refuse_yes' _ _ _ (by simp [*])).mono ?_
    rintro e w' ⟨rfl, rfl⟩
    exact ⟨rfl, rfl, rfl⟩

theorem flag_any (s : Bool) (x : Int) (w : World) : Calls Tryd.prog 29 #[.bool s, .int .i64 x] w fun e w' => e = .returned (.int .i64 (flagI s x)) ∧ w' = w := by
  unfold flagI
  cases s
  · go_enter Tryd.func29, Tryd.ntmps29
    go_wp2
    go_ret
    exact ⟨rfl, rfl⟩
  · go_enter Tryd.func29, Tryd.ntmps29
    go_wp2
    go_ret
    exact ⟨rfl, rfl⟩

/-- A datagram as a value. -/
@[reducible] def ipV (p : Dg) (vo vb : Value) : Value :=
  .agg #[.int .i64 p.tos, .int .i64 p.id, .bool p.df, .bool p.mf, .int .i64 p.off, .int .i64 p.ttl, .int .i64 p.proto, .int .u32 p.src, .int .u32 p.dst, vo, vb]

@[reducible] def ipC (p : Dg) (vo vb : Value) : Array Value :=
  #[.int .i64 p.tos, .int .i64 p.id, .bool p.df, .bool p.mf, .int .i64 p.off, .int .i64 p.ttl, .int .i64 p.proto, .int .u32 p.src, .int .u32 p.dst, vo, vb]

set_option maxHeartbeats 400000 in
theorem totalOf_any (p : Dg) (ao ab : Option Addr) (co cb : Nat) (w : World) (ho : p.opts.length ≤ 140737488351232) (hb : p.body.length ≤ 140737488351232) :
    Calls Tryd.prog 26 #[ipV p (.slice ao p.opts.length co) (.slice ab p.body.length cb)] w fun e w' => e = .returned (.int .i64 (totalI p)) ∧ Below w.heap.size w w' := by
  unfold totalI
  go_enter Tryd.func26, Tryd.ntmps26
  go_wp2
  go_ret
  exact ⟨rfl, below_alloc _ _⟩

set_option maxHeartbeats 400000 in
theorem lay_yes (b off len cap : Nat) (l : List Int) (q m : Int) (p n : Nat) (x : Int) (w : World) (hq : q = (p : Int)) (hm : m = (n : Int)) (hL : l.length = len)
    (hs : Sees w b off l) (h1 : 1 ≤ n) (h2 : n ≤ 8) (h3 : p + n ≤ len) (hx0 : 0 ≤ x) (hx1 : x < 9223372036854775808) (hreach : len ≤ 140737488351232) :
    Calls Tryd.prog 28 #[.slice (some ⟨b, off, none⟩) len cap, .int .i64 q, .int .i64 m, .int .i64 x] w fun e w' =>
      ∃ G, e = .returned (.slice (some ⟨G, 0, none⟩) len len) ∧ Holds8 w' w.heap.size G len len (lay l p n x) ∧ Below w.heap.size w w' := by
  subst hq hm
  go_enter Tryd.func28, Tryd.ntmps28
  go_wp2_with fail
  refine (put_yes b off len cap l p n x _ hL hs h1 h2 h3 hx0 (by omega) hreach).mono ?_
  rintro e w1 ⟨G, rfl, hH, hb⟩
  go_wp2_with fail
  refine (refuse_no _ _).mono ?_
  rintro e w' ⟨rfl, rfl⟩
  go_wp2
  go_ret
  exact ⟨G, rfl, hH, hb⟩
end Go.Proofs.YtkclbmhhlpdcnaaDoor
