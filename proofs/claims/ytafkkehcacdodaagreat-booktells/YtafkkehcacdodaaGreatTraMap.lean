/- Maps as functions: what a key's shape says; made, asked, written, struck, ranged over. -/
import Derived.Test.YtafkkehcacdodaaGreatCopy
import Derived.Maps.RangeWalk
import Derived.Maps.OwnSet
import Derived.Maps.OwnOps
import Derived.WideKeyEntry
set_option maxRecDepth 100000
namespace Go.Proofs.YtafkkehcacdodaaGreat
open Go.RowKit Go.Maps
open Go.MapKept (stamped_iff)
open Go.ChangeMaps (setBlock heap_setBlock_same heap_setBlock_other)

/-- An element as it lies. -/
def Rv (v : Value) : Option (DataW Value × List MemPlace) := some (.held v, [])

/-- Keys of one shape. -/
structure KeyK {κ : Type} (kt : TypeId) (mk : κ → Value) (ok : κ → Prop) : Prop where
  law : Keyed Tryz.prog kt
  has : ∀ x, ok x → ∃ l, keyOf Tryz.prog kt (mk x) = some l
  inv : ∀ v l, keyOf Tryz.prog kt v = some l → ∃ x, ok x ∧ v = mk x
  inj : ∀ x y, mk x = mk y → x = y

/-- A map that says of each key what lies there. -/
def KMap {κ : Type} (kt : TypeId) (mk : κ → Value) (w : World) (b n : Nat) (f : κ → Option Value) : Prop :=
  ∃ D, w.ownsMap Tryz.prog kt Rv b n D ∧ ∀ x l, keyOf Tryz.prog kt (mk x) = some l → Maps.has D l = (f x).isSome ∧ ∀ v z, f x = some v → D.atKey l z = .held v

/-- A map that is being ranged over: the keys that are still to come. -/
def KRange {κ : Type} (kt : TypeId) (mk : κ → Value) (w : World) (b r n : Nat) (f : κ → Option Value) (left : κ → Bool) (cnt : Nat) : Prop :=
  ∃ D leftL, w.ranges Tryz.prog kt Rv b r n D leftL cnt ∧ (∀ x l, keyOf Tryz.prog kt (mk x) = some l → Maps.has D l = (f x).isSome ∧ ∀ v z, f x = some v → D.atKey l z = .held v) ∧ ∀ x l, keyOf Tryz.prog kt (mk x) = some l → leftL l = left x

section
variable {κ : Type} {kt : TypeId} {mk : κ → Value} {ok : κ → Prop} {w w' : World} {b r n : Nat} {f : κ → Option Value} {left : κ → Bool} {cnt : Nat}

theorem KMap.made (w : World) : KMap kt mk (w.alloc (.map #[] 0)) w.heap.size 0 (fun _ : κ => none) :=
  ⟨_, World.ownsMap_made w _ _ _, fun x l _ => ⟨rfl, fun v z h => by cases h⟩⟩

theorem KMap.mono (h : KMap kt mk w b n f) {n' : Nat} (hn : n ≤ n') : KMap kt mk w b n' f := by
  obtain ⟨D, h1, h2⟩ := h
  exact ⟨D, h1.mono hn, h2⟩

theorem KMap.lt (h : KMap kt mk w b n f) : b < w.heap.size := by
  obtain ⟨D, h1, h2⟩ := h
  exact h1.lt

theorem KMap.kept {row : Option Nat} (h : KMap kt mk w b n f) (hg : w.grownBy w' row) (hne : some b ≠ row) : KMap kt mk w' b n f := by
  obtain ⟨D, h1, h2⟩ := h
  exact ⟨D, h1.kept hg hne, h2⟩

theorem KMap.same (h : KMap kt mk w b n f) (e : w'.heap[b]? = w.heap[b]?) : KMap kt mk w' b n f := by
  obtain ⟨D, ⟨es, clock, hb, hr⟩, h2⟩ := h
  exact ⟨D, ⟨es, clock, e.trans hb, hr⟩, h2⟩

theorem KMap.later (h : KMap kt mk w b n f) (e : Below w.heap.size w w') : KMap kt mk w' b n f := h.same (e.block b h.lt)

theorem KMap.alloc (h : KMap kt mk w b n f) (o : Obj) : KMap kt mk (w.alloc o) b n f := by
  obtain ⟨D, h1, h2⟩ := h
  exact ⟨D, h1.alloc o, h2⟩

theorem KMap.ext (h : KMap kt mk w b n f) {g : κ → Option Value} (hg : ∀ x, f x = g x) : KMap kt mk w b n g := by
  have : f = g := funext hg
  exact this ▸ h

theorem KMap.ext_ok (K : KeyK kt mk ok) (h : KMap kt mk w b n f) {g : κ → Option Value} (hg : ∀ x, ok x → f x = g x) : KMap kt mk w b n g := by
  obtain ⟨D, h1, h2⟩ := h
  refine ⟨D, h1, fun x l hl => ?_⟩
  obtain ⟨y, hy, e⟩ := K.inv _ _ hl
  obtain rfl := K.inj _ _ e
  rw [← hg x hy]
  exact h2 x l hl

theorem key_ne (K : KeyK kt mk ok) {x y : κ} {l l' : Lit} (hl : keyOf Tryz.prog kt (mk x) = some l) (hl' : keyOf Tryz.prog kt (mk y) = some l') (hne : y ≠ x) : l' ≠ l := by
  rintro rfl
  exact hne (K.inj _ _ (K.law.inj hl' hl))

section
variable {e t : TypeId} {z : Value}

theorem KMap.look_ok (K : KeyK kt mk ok) (h : KMap kt mk w b n f) (ht : Tryz.prog.underlying t = some (.map kt e)) (hz : (zeroValue e).run Tryz.prog w = .ok z w) (x : κ) (hx : ok x) :
    (Instr.lookup t (.map (some b)) (mk x) true).run Tryz.prog w = .ok (.tuple #[(f x).getD z, .bool (f x).isSome]) w := by
  obtain ⟨D, h1, h2⟩ := h
  obtain ⟨l, hl⟩ := K.has x hx
  obtain ⟨v, ps, hrun, hv⟩ := h1.look_ok K.law ht hz (R := Rv) (zd := .held z) (zp := []) rfl hl
  obtain ⟨g1, g2⟩ := h2 x l hl
  rw [hrun, g1]
  have e1 : (DataW.held v : DataW Value) = D.atKey l (.held z) := by unfold Rv at hv; injection hv with hv; exact (Prod.mk.inj hv).1
  cases hf : f x with
  | none =>
    rw [hf] at g1
    rw [atKey_of_not_has g1] at e1
    injection e1 with e1
    rw [e1]; rfl
  | some u =>
    rw [g2 u _ hf] at e1
    injection e1 with e1
    rw [e1]; rfl

theorem KMap.look (K : KeyK kt mk ok) (h : KMap kt mk w b n f) (ht : Tryz.prog.underlying t = some (.map kt e)) (hz : (zeroValue e).run Tryz.prog w = .ok z w) (x : κ) (hx : ok x) :
    (Instr.lookup t (.map (some b)) (mk x) false).run Tryz.prog w = .ok ((f x).getD z) w := by
  obtain ⟨D, h1, h2⟩ := h
  obtain ⟨l, hl⟩ := K.has x hx
  obtain ⟨v, ps, hrun, hv⟩ := h1.lookup K.law ht hz (R := Rv) (zd := .held z) (zp := []) rfl hl
  obtain ⟨g1, g2⟩ := h2 x l hl
  rw [hrun]
  have e1 : (DataW.held v : DataW Value) = D.atKey l (.held z) := by unfold Rv at hv; injection hv with hv; exact (Prod.mk.inj hv).1
  cases hf : f x with
  | none =>
    rw [hf] at g1
    rw [atKey_of_not_has g1] at e1
    injection e1 with e1
    rw [e1]; rfl
  | some u =>
    rw [g2 u _ hf] at e1
    injection e1 with e1
    rw [e1]; rfl

theorem KMap.store [DecidableEq κ] (K : KeyK kt mk ok) (h : KMap kt mk w b n f) (ht : Tryz.prog.underlying t = some (.map kt e)) (hn : n < maxLen) (x : κ) (hx : ok x) (v : Value) :
    ∃ w', (Instr.mapUpdate t (.map (some b)) (mk x) v).run Tryz.prog w = .ok () w' ∧ KMap kt mk w' b (n + 1) (fun y => if y = x then some v else f y) ∧ w.mapTurned w' b := by
  obtain ⟨D, h1, h2⟩ := h
  obtain ⟨l, hl⟩ := K.has x hx
  obtain ⟨w', hrun, r1, r2⟩ := h1.store K.law ht hn hl (R := Rv) (d := .held v) (ps := []) rfl
  refine ⟨w', hrun, ⟨_, r1, fun y l' hl' => ?_⟩, r2⟩
  by_cases hxy : y = x
  · subst hxy
    rw [hl] at hl'
    injection hl' with hl'
    subst hl'
    refine ⟨?_, fun u z hu => ?_⟩
    · rw [has_put_same h1.isMap (K.law.key hl)]; simp
    · simp at hu
      subst hu
      exact atKey_put_same h1.isMap (K.law.key hl) _ _
  · have hne := key_ne K hl hl' hxy
    obtain ⟨g1, g2⟩ := h2 y l' hl'
    simp only [if_neg hxy]
    exact ⟨by rw [has_put_other hne]; exact g1, fun u z hu => by rw [atKey_put_other hne]; exact g2 u z hu⟩

theorem KMap.drop [DecidableEq κ] (K : KeyK kt mk ok) (h : KMap kt mk w b n f) (ht : Tryz.prog.underlying t = some (.map kt e)) (x : κ) (hx : ok x) (ty : TypeId) :
    ∃ w', (Builtin.delete_ #[t, kt] ty #[.map (some b), mk x]).run Tryz.prog w = .ok (.tuple #[]) w' ∧ KMap kt mk w' b n (fun y => if y = x then none else f y) ∧ w.mapTurned w' b := by
  obtain ⟨D, h1, h2⟩ := h
  obtain ⟨l, hl⟩ := K.has x hx
  obtain ⟨w', hrun, r1, r2⟩ := h1.drop K.law ht hl ty
  refine ⟨w', hrun, ⟨_, r1, fun y l' hl' => ?_⟩, r2⟩
  by_cases hxy : y = x
  · subst hxy
    rw [hl] at hl'
    injection hl' with hl'
    subst hl'
    exact ⟨by rw [has_del_same]; simp, fun u z hu => by simp at hu⟩
  · have hne := key_ne K hl hl' hxy
    obtain ⟨g1, g2⟩ := h2 y l' hl'
    simp only [if_neg hxy]
    exact ⟨by rw [has_del_other hne]; exact g1, fun u z hu => by rw [atKey_del_other hne]; exact g2 u z hu⟩

end

theorem KRange.map (h : KRange kt mk w b r n f left cnt) : KMap kt mk w b n f := by
  obtain ⟨D, L, h1, h2, _⟩ := h
  exact ⟨D, h1.owns, h2⟩

theorem KRange.kept {row : Option Nat} (h : KRange kt mk w b r n f left cnt) (hg : w.grownBy w' row) (hb : some b ≠ row) (hr : some r ≠ row) : KRange kt mk w' b r n f left cnt := by
  obtain ⟨D, L, h1, h2, h3⟩ := h
  exact ⟨D, L, h1.kept hg hb hr, h2, h3⟩

theorem KRange.lt (h : KRange kt mk w b r n f left cnt) : r < w.heap.size := by
  obtain ⟨D, L, h1, h2, h3⟩ := h
  exact h1.lt

theorem KRange.same (h : KRange kt mk w b r n f left cnt) (e : w'.heap[b]? = w.heap[b]?) (er : w'.heap[r]? = w.heap[r]?) : KRange kt mk w' b r n f left cnt := by
  obtain ⟨D, L, h1, h2, h3⟩ := h
  obtain ⟨es, clock, since, seen, c0, hb, F, hs, hD, hr, rest⟩ := h1
  exact ⟨D, L, ⟨es, clock, since, seen, c0, e.trans hb, F, hs, hD, er.trans hr, rest⟩, h2, h3⟩

theorem KRange.later (h : KRange kt mk w b r n f left cnt) (e : Below w.heap.size w w') : KRange kt mk w' b r n f left cnt := h.same (e.block b h.map.lt) (e.block r h.lt)

theorem KRange.left_eq (h : KRange kt mk w b r n f left cnt) : w.rangeLeft b r = cnt := by
  obtain ⟨D, L, h1, h2, h3⟩ := h
  exact h1.left_eq

theorem KRange.ext (h : KRange kt mk w b r n f left cnt) {l' : κ → Bool} (hl : ∀ x, left x = l' x) : KRange kt mk w b r n f l' cnt := by
  have : left = l' := funext hl
  exact this ▸ h

theorem KRange.ne (h : KRange kt mk w b r n f left cnt) : r ≠ b := by
  obtain ⟨D, L, h1, h2, h3⟩ := h
  exact h1.ne

end

/-! ### at the operation, for the walk -/
section
variable {κ : Type} {kt : TypeId} {mk : κ → Value} {okk : κ → Prop} {b r n : Nat} {f : κ → Option Value} {left : κ → Bool} {cnt : Nat}
variable (w : World) {ops : Array Oper} {rest : List Oper} {o : Oper} {a : Act} {Q : Exit → Act → World → Prop}

theorem wpl_look_ok (hg : o.guard = none) (m x : Operand) (t : TypeId) (hop : o.op = Op.lookup t m x true) (K : KeyK kt mk okk) (e : TypeId) (ht : Tryz.prog.underlying t = some (.map kt e)) {z : Value} (hz : (zeroValue e).run Tryz.prog w = .ok z w)
    (hm : a.eval m = .map (some b)) (h : KMap kt mk w b n f) (y : κ) (hy : okk y) (hx : a.eval x = mk y)
    (hK : wpList Tryz.prog ops Q rest (a.put o.dst (.tuple #[(f y).getD z, .bool (f y).isSome])) w) : wpList Tryz.prog ops Q (o :: rest) a w := by
  refine wpList_plain hg fun K' hK' => ?_
  have hr := h.look_ok K ht hz y hy
  unfold Oper.wp
  simp [execOp, hop, hm, hx, hr, Result.andThen]
  exact hK' _ _ hK

theorem wpl_look (hg : o.guard = none) (m x : Operand) (t : TypeId) (hop : o.op = Op.lookup t m x false) (K : KeyK kt mk okk) (e : TypeId) (ht : Tryz.prog.underlying t = some (.map kt e)) {z : Value} (hz : (zeroValue e).run Tryz.prog w = .ok z w)
    (hm : a.eval m = .map (some b)) (h : KMap kt mk w b n f) (y : κ) (hy : okk y) (hx : a.eval x = mk y)
    (hK : wpList Tryz.prog ops Q rest (a.put o.dst ((f y).getD z)) w) : wpList Tryz.prog ops Q (o :: rest) a w := by
  refine wpList_plain hg fun K' hK' => ?_
  have hr := h.look K ht hz y hy
  unfold Oper.wp
  simp [execOp, hop, hm, hx, hr, Result.andThen]
  exact hK' _ _ hK

theorem wpl_look_some (hg : o.guard = none) (m x : Operand) (t : TypeId) (hop : o.op = Op.lookup t m x true) (K : KeyK kt mk okk) (e : TypeId) (ht : Tryz.prog.underlying t = some (.map kt e)) {z : Value} (hz : (zeroValue e).run Tryz.prog w = .ok z w)
    (hm : a.eval m = .map (some b)) (h : KMap kt mk w b n f) (y : κ) (hy : okk y) (u : Value) (hu : f y = some u) (hx : a.eval x = mk y)
    (hK : wpList Tryz.prog ops Q rest (a.put o.dst (.tuple #[u, .bool true])) w) : wpList Tryz.prog ops Q (o :: rest) a w :=
  wpl_look_ok w hg m x t hop K e ht hz hm h y hy hx (by rw [hu]; exact hK)

theorem wpl_look_none (hg : o.guard = none) (m x : Operand) (t : TypeId) (hop : o.op = Op.lookup t m x true) (K : KeyK kt mk okk) (e : TypeId) (ht : Tryz.prog.underlying t = some (.map kt e)) {z : Value} (hz : (zeroValue e).run Tryz.prog w = .ok z w)
    (hm : a.eval m = .map (some b)) (h : KMap kt mk w b n f) (y : κ) (hy : okk y) (hu : f y = none) (hx : a.eval x = mk y)
    (hK : wpList Tryz.prog ops Q rest (a.put o.dst (.tuple #[z, .bool false])) w) : wpList Tryz.prog ops Q (o :: rest) a w :=
  wpl_look_ok w hg m x t hop K e ht hz hm h y hy hx (by rw [hu]; exact hK)

theorem wpl_store [DecidableEq κ] (hg : o.guard = none) (m x v : Operand) (t : TypeId) (hop : o.op = Op.mapUpdate t m x v) (K : KeyK kt mk okk) (e : TypeId) (ht : Tryz.prog.underlying t = some (.map kt e))
    (hm : a.eval m = .map (some b)) (h : KMap kt mk w b n f) (hn : n < maxLen) (y : κ) (hy : okk y) (hx : a.eval x = mk y) (u : Value) (hu : a.eval v = u)
    (hK : ∀ w', KMap kt mk w' b (n + 1) (fun y' => if y' = y then some u else f y') → w.mapTurned w' b → wpList Tryz.prog ops Q rest (a.put o.dst undef) w') : wpList Tryz.prog ops Q (o :: rest) a w := by
  refine wpList_plain hg fun K' hK' => ?_
  obtain ⟨w', hrun, r1, r2⟩ := h.store K ht hn y hy u
  unfold Oper.wp
  simp [execOp, hop, hm, hx, hu, hrun, Result.andThen]
  exact hK' _ _ (hK w' r1 r2)

theorem wpl_drop [DecidableEq κ] (hg : o.guard = none) (m x : Operand) (t : TypeId) (hop : o.op = Op.call { callee := Callee.builtin Builtin.delete, args := #[m, x], argTypes := #[t, kt] }) (K : KeyK kt mk okk) (e : TypeId) (ht : Tryz.prog.underlying t = some (.map kt e))
    (hm : a.eval m = .map (some b)) (h : KMap kt mk w b n f) (y : κ) (hy : okk y) (hx : a.eval x = mk y)
    (hK : ∀ w', KMap kt mk w' b n (fun y' => if y' = y then none else f y') → w.mapTurned w' b → wpList Tryz.prog ops Q rest (a.put o.dst (.tuple #[])) w') : wpList Tryz.prog ops Q (o :: rest) a w := by
  refine wpList_plain hg fun K' hK' => ?_
  obtain ⟨w', hrun, r1, r2⟩ := h.drop K ht y hy o.type
  unfold Oper.wp
  simp [execOp, hop, resolve, invoke, builtin, hm, hx, hrun, Result.andThen]
  exact hK' _ _ (hK w' r1 r2)

theorem wpl_range (hg : o.guard = none) (m : Operand) (t : TypeId) (hop : o.op = Op.range t m) (K : KeyK kt mk okk) (e : TypeId) (ht : Tryz.prog.underlying t = some (.map kt e))
    (hm : a.eval m = .map (some b)) (h : KMap kt mk w b n f)
    (hK : ∀ w' cnt, KRange kt mk w' b w.heap.size n f (fun x => (f x).isSome) cnt → w.grownBy w' none → w'.heap.size = w.heap.size + 1 → wpList Tryz.prog ops Q rest (a.put o.dst (.pointer (some ⟨w.heap.size, 0, none⟩))) w') : wpList Tryz.prog ops Q (o :: rest) a w := by
  obtain ⟨D, h1, h2⟩ := h
  exact wpList_range_own w hg m t hop kt e K.law ht Rv b n D hm h1 fun w' q1 q2 q3 => hK w' _ ⟨D, _, q1, h2, fun x l hl => (h2 x l hl).1⟩ q2 q3

theorem wpl_next [DecidableEq κ] (hg : o.guard = none) (it : Operand) (hop : o.op = Op.next it false) (K : KeyK kt mk okk) (hit : a.eval it = .pointer (some ⟨r, 0, none⟩)) (h : KRange kt mk w b r n f left cnt)
    (hDone : cnt = 0 → (∀ x, okk x → left x = false) → wpList Tryz.prog ops Q rest (a.put o.dst (.tuple #[.bool false])) w)
    (hMore : ∀ (x : κ) (v : Value) (w' : World) (cnt' : Nat), okk x → left x = true → f x = some v → KRange kt mk w' b r n f (fun y => left y && !decide (y = x)) cnt' → cnt' < cnt → w.grownBy w' (some r) → w'.heap.size = w.heap.size →
      (Instr.entry (.pointer (some ⟨r, 0, none⟩))).run Tryz.prog w' = .ok (.tuple #[mk x, v]) w' → wpList Tryz.prog ops Q rest (a.put o.dst (.tuple #[.bool true, mk x, v])) w') : wpList Tryz.prog ops Q (o :: rest) a w := by
  obtain ⟨D, L, h1, h2, h3⟩ := h
  refine wpList_next_ranges w hg it hop kt K.law Rv mk (fun v : Value => v) (fun key kl hk => by obtain ⟨x, _, e⟩ := K.inv key kl hk; exact ⟨x, e⟩) (fun v y _ => ⟨v, rfl⟩) b r n D L cnt hit h1 ?_ ?_
  · intro h0 hl
    refine hDone h0 fun x hx => ?_
    obtain ⟨l, hl'⟩ := K.has x hx
    rw [← h3 x l hl']; exact hl l
  · intro x v kl y w' cnt' hkey hlk hv hat hrg hlt hgr hsz hen
    obtain ⟨g1, g2⟩ := h2 x kl hkey
    have hyd : y.1 = .held v := by unfold Rv at hv; injection hv with hv; rw [← hv]
    have hs : (f x).isSome = true := by rw [← g1]; exact has_true_of_atKey hat
    obtain ⟨u, hu⟩ := Option.isSome_iff_exists.1 hs
    have huv : u = v := by
      have := g2 u (.held v) hu
      rw [hat] at this
      rw [hyd] at this
      injection this with this
      exact this.symm
    subst huv
    obtain ⟨x', hx', e'⟩ := K.inv _ _ hkey
    obtain rfl := K.inj _ _ e'
    refine hMore x u w' cnt' hx' (by rw [← h3 x kl hkey]; exact hlk) hu ⟨D, _, hrg, h2, fun z l hl => ?_⟩ hlt hgr hsz hen
    rw [h3 z l hl]
    congr 1
    congr 1
    by_cases hzx : z = x
    · subst hzx
      rw [hkey] at hl
      injection hl with hl
      subst hl
      simp [WideAt.sameKey_self (K.law.key hkey)]
    · simp [hzx, sameKey_ne (key_ne K hkey hl hzx)]

end

/-! ### m[k] = append(m[k], ..): the entry first, then the store -/
section
variable {κ : Type} {kt : TypeId} {mk : κ → Value} {okk : κ → Prop} {w : World} {b n : Nat} {f : κ → Option Value}

theorem KMap.entry [DecidableEq κ] (KL : Go.WideMaps.KeyLaw Tryz.prog kt) (K : KeyK kt mk okk) (h : KMap kt mk w b n f) {t e : TypeId} (ht : Tryz.prog.underlying t = some (.map kt e)) {z : Value} (hz : ∀ u, (zeroValue e).run Tryz.prog u = .ok z u) (hn : n < maxLen) (x : κ) (hx : okk x) :
    ∃ st w1, (Instr.mapEntry t (.map (some b)) (mk x)).run Tryz.prog w = .ok (.tuple #[(f x).getD z, goInt st]) w1 ∧ w.grownBy w1 (some b) ∧ w1.heap.size = w.heap.size ∧
      ∀ w2 val, w2.heap[b]? = w1.heap[b]? → ∃ w3, (Instr.entryStore t (.map (some b)) (goInt st) val).run Tryz.prog w2 = .ok () w3 ∧ KMap kt mk w3 b (n + 1) (fun y => if y = x then some val else f y) ∧ w2.grownBy w3 (some b) ∧ w3.heap.size = w2.heap.size := by
  obtain ⟨l, hl⟩ := K.has x hx
  have hlook := h.look K ht (hz w) x hx
  have hup := fun val => h.store K ht hn x hx val
  obtain ⟨D, ⟨es, clock, hb, F, hs, rfl⟩, hf⟩ := h
  obtain ⟨v0, st, es1, clock1, hrun, hv0, hst⟩ := Go.WideElems.entry_then_store KL ht hz hb F hl
  have hv : v0 = (f x).getD z := by
    rcases Maps.fit_look false K.law ht (hz w) hb F hl with ⟨q1, q2, -⟩ | ⟨e0, y, q1, q2, q3, -⟩
    · have e1 : z = (f x).getD z := by rw [hlook] at q1; simpa using q1.symm
      rcases hv0 with ⟨e1, g1, g2, -⟩ | ⟨_, rfl⟩
      · exact absurd g2 (q2 e1 g1)
      · exact e1
    · have e1 : e0.val = (f x).getD z := by rw [hlook] at q3; simpa using q3.symm
      rcases hv0 with ⟨e2, g1, g2, rfl⟩ | ⟨g1, rfl⟩
      · have hap := ((stamped_iff es clock).1 F.stamped).2.2
        rw [entry_eq_of_key hap g1 q1 (g2.trans q2.symm)]; exact e1
      · exact absurd q2 (g1 e0 q1)
  subst hv
  have hbl : b < w.heap.size := (Array.getElem?_eq_some_iff.1 hb).1
  refine ⟨st, _, hrun, ⟨rfl, rfl, rfl, by simp [setBlock], fun i _ hi => heap_setBlock_other hb _ (fun e => hi (by rw [e]))⟩, by simp [setBlock], fun w2 val hw2 => ?_⟩
  rw [heap_setBlock_same hb] at hw2
  obtain ⟨es', clock', hr2, hr3⟩ := hst w2 val hw2
  obtain ⟨w3, g1, g2, g3⟩ := hup val
  rw [hr3] at g1
  injection g1 with _ g1
  subst g1
  refine ⟨_, hr2, g2.same ?_, ⟨rfl, rfl, rfl, by simp [setBlock], fun i _ hi => heap_setBlock_other hw2 _ (fun e => hi (by rw [e]))⟩, by simp [setBlock]⟩
  rw [heap_setBlock_same hw2, heap_setBlock_same hb]

variable {ops : Array Oper} {rest : List Oper} {o : Oper} {a : Act} {Q : Exit → Act → World → Prop}

theorem wpl_entry_run (hg : o.guard = none) (m x : Operand) (t : TypeId) (hop : o.op = Op.mapEntry t m x) (M X : Value) (hm : a.eval m = M) (hx : a.eval x = X) {r : Value} {w1 : World} (hrun : (Instr.mapEntry t M X).run Tryz.prog w = .ok r w1)
    (hK : wpList Tryz.prog ops Q rest (a.put o.dst r) w1) : wpList Tryz.prog ops Q (o :: rest) a w := by
  refine wpList_plain hg fun K' hK' => ?_
  unfold Oper.wp
  simp [execOp, hop, hm, hx, hrun, Result.andThen]
  exact hK' _ _ hK

theorem wpl_entryStore_run (hg : o.guard = none) (m s x : Operand) (t : TypeId) (hop : o.op = Op.entryStore t m s x) (M S X : Value) (hm : a.eval m = M) (hs : a.eval s = S) (hx : a.eval x = X) {w1 : World} (hrun : (Instr.entryStore t M S X).run Tryz.prog w = .ok () w1)
    (hK : wpList Tryz.prog ops Q rest (a.put o.dst undef) w1) : wpList Tryz.prog ops Q (o :: rest) a w := by
  refine wpList_plain hg fun K' hK' => ?_
  unfold Oper.wp
  simp [execOp, hop, hm, hs, hx, hrun, Result.andThen]
  exact hK' _ _ hK

end

end Go.Proofs.YtafkkehcacdodaaGreat
