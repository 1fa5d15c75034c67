/- read: the entries of a disk. -/
import Derived.Test.YtafkkehcacdodaaGreatBokGrow
import Derived.Test.YtafkkehcacdodaaGreatBokDeeds
set_option maxRecDepth 100000
namespace Go.Proofs.YtafkkehcacdodaaGreat
open Go.RowKit Go.Shelf

theorem found_app (l m : List (List Int)) : foundE (l ++ m) = foundE l ++ foundE m := by
  unfold foundE
  rw [List.filter_append, List.map_append]

theorem bodK_len {s : St} (h : s.Ok) (k : Nat) (hk : k ≤ s.n) : (bodK s.now k).length ≤ k * 8 := by
  unfold bodK
  rw [List.length_map]
  exact (openK_ok s.now s.n h.nl h.nb k hk).2.2.2

/-- A row of entries behind the world w's own blocks. -/
def RowF (w wr : World) (r : Value) (L : List En) : Prop := Win wr 5 r L.length (L.flatMap eL5) ∧ ∀ g, r.ownBlock = some g → w.heap.size ≤ g

theorem RowF.later {w wr wr' : World} {r : Value} {L : List En} (h : RowF w wr r L) (hb : Below wr.heap.size wr wr') : RowF w wr' r L := ⟨h.1.later hb, h.2⟩

/-- One entry more behind a row that is seen. -/
theorem append_w (W : World) (v : Value) (L : List En) (e : En) (hv : Win W 5 v L.length (L.flatMap eL5)) (hlen : L.length ≤ 900000) :
    ∃ a c w', (Builtin.append_ #[63, 63] 63 #[v, .slice (some ⟨W.heap.size, 0, none⟩) 1 1]).run Tryz.prog (W.alloc (.cells #[.int .i64 e.kind, .int .i64 e.time, .int .u32 e.sub, .int .u32 e.addr, .int .i64 e.block] 73)) = .ok (.slice a (L.length + 1) c) w' ∧
      Win w' 5 (.slice a (L.length + 1) c) (L ++ [e]).length ((L ++ [e]).flatMap eL5) ∧ (∀ g, g < W.heap.size → v.ownBlock ≠ some g → w'.heap[g]? = W.heap[g]?) ∧ (∀ g, (Value.slice a (L.length + 1) c).ownBlock = some g → v.ownBlock = some g ∨ W.heap.size ≤ g) ∧
      (W.alloc (.cells #[.int .i64 e.kind, .int .i64 e.time, .int .u32 e.sub, .int .u32 e.addr, .int .i64 e.block] 73)).grownBy w' v.ownBlock := by
  obtain ⟨i0, hi, hz0, hz1, hz2⟩ := info_parts infoE5
  have hb := below_alloc W (.cells #[.int .i64 e.kind, .int .i64 e.time, .int .u32 e.sub, .int .u32 e.addr, .int .i64 e.block] 73)
  have h1 : ([e].flatMap eL5) = eL5 e := by rw [List.flatMap_cons, List.flatMap_nil, List.append_nil]
  obtain ⟨v', w', hr, hwin, hg, hat⟩ := win_append (P := Tryz.prog) (W.alloc (.cells #[.int .i64 e.kind, .int .i64 e.time, .int .u32 e.sub, .int .u32 e.addr, .int .i64 e.block] 73)) 63 63 73 i0 _ 5 32 Tryz.underlying63 hi hz0 hz1 hz2 rfl (by decide) v L.length _ (hv.later hb)
    (some ⟨W.heap.size, 0, none⟩) 1 1 (eL5 e) rfl (.inl ⟨_, rfl, fun j u hj => by rw [add_at, Nat.zero_add]; exact e5_news W e j u hj⟩) (by rw [← h1]; exact eL5_one [e]) (by unfold maxLen; omega) (by omega)
  obtain ⟨a, c, rfl, _⟩ := win_form hwin
  refine ⟨a, c, w', hr, ?_, fun g hlt hne => ?_, fun g hgv => ?_, hg⟩
  · rw [List.flatMap_append, List.length_append, h1]; exact hwin
  · exact (hg.block g (Nat.lt_of_lt_of_le hlt hb.size) (fun e => hne e.symm)).trans (hb.block g hlt)
  · rcases hat with e1 | e1
    · left; rw [← e1]; exact hgv
    · right; rw [e1] at hgv; simp at hgv; omega

theorem lst_at {w w' : World} {base : Nat} {v : Value} {vs : List Value} {ls : List (List Int)} (h : Lst w base v vs ls) (hk : ∀ g, base ≤ g → g < w.heap.size → w'.heap[g]? = w.heap[g]?) (hs : w.heap.size ≤ w'.heap.size) : Lst w' base v vs ls :=
  ⟨h.win.same (fun g hg => hk g (h.blk g hg) (h.win.lt g hg)), h.blk, fun i hi => bts_same (h.bts i hi) (fun g hg hlt => hk g (h.ent i hi g hg).1 hlt), fun i hi g hg => ⟨(h.ent i hi g hg).1, Nat.lt_of_lt_of_le (h.ent i hi g hg).2.1 hs, (h.ent i hi g hg).2.2⟩⟩

set_option maxHeartbeats 2000000 in
theorem read11_ok (w : World) (tag : Nat → Nat) (base o : Nat) (s : St) (p : PL) (h : PD w tag base o s p) (D : Nat) (hD : p.D = D) :
    Calls Tryz.prog 26 #[.pointer (some ⟨D, 0, none⟩)] w fun e w' => ∃ r, e = .returned r ∧ Win w' 5 r (foundE (bodK s.now s.n)).length ((foundE (bodK s.now s.n)).flatMap eL5) ∧ (∀ g, r.ownBlock = some g → w.heap.size ≤ g) ∧ Below w.heap.size w w' := by
  subst hD
  have HP : Hid (PD w tag base o s p) := h
  have hn2 := h.ok.n2
  have HOk : Hid s.Ok := h.ok
  have h0 : RowF w w (.slice none 0 0) (foundE (bodK s.now 0)) := ⟨win_nil _ _, fun g hg => by simp [Value.ownBlock] at hg⟩
  clear h
  go_enter Tryz.func26, Tryz.ntmps26
  go_wp2
  go_loopg [3, 4] s.n (fun gk rv i wr => ∃ (k : Nat) (r : Value), k + gk = s.n ∧ r = rv ∧ i = .int .i64 (k : Int) ∧ RowF w wr r (foundE (bodK s.now k)) ∧ Below w.heap.size w wr)
  case atStart => exact ⟨0, _, by omega, rfl, rfl, h0, Below.refl _ _⟩
  case round =>
    obtain ⟨wx, rfl⟩ : ∃ wx, wx = wr := ⟨wr, rfl⟩
    obtain ⟨k, r, hk, rfl, rfl, hrow, hB⟩ := hrel
    have HSz := size_ok wx tag base o s p (HP.out.later hB)
    have HRow : Hid (RowF w wx r (foundE (bodK s.now k))) := hrow
    clear hrow
    go_wp2_with fail
    refine HSz.mono ?_
    rintro e w' ⟨rfl, hx⟩
    rw [hx]
    clear hx HSz
    by_cases hlt : k < s.n
    case neg =>
      have hge : ¬ (k : Int) < (s.n : Int) := by omega
      have hke : k = s.n := by omega
      rw [hke] at HRow
      go_wp2
      go_ret
      exact ⟨_, rfl, HRow.out.1, HRow.out.2, hB⟩
    have hltI : (k : Int) < (s.n : Int) := by omega
    have HRd := read_okI wx tag base o s p (HP.out.later hB) k k rfl hlt _ rfl
    have hsl := sec_len HOk.out.nl hlt
    go_wp2_with fail
    refine HRd.mono ?_
    rintro e w2 ⟨v2, rfl, hb2, _, hB2⟩
    have hB02 := hB.trans (hB2.mono hB.size)
    have HSc := scan_ok w2 v2 (sec s.now k) hb2 (by omega)
    obtain ⟨a2, c2, rfl, _⟩ := bts_src hb2
    rw [hsl] at HSc
    clear HRd hb2
    go_wp2_with fail
    refine HSc.mono ?_
    rintro e w3 ⟨v3, vs3, rfl, hL3, hB3⟩
    have hB03 := hB02.trans (hB3.mono hB02.size)
    have HL : Hid (Lst w3 w2.heap.size v3 vs3 (scanB (sec s.now k))) := hL3
    have hll : (scanB (sec s.now k)).length ≤ 8 := by have := scanB_len 64 (sec s.now k) (by omega); omega
    obtain ⟨a3, c3, rfl, hc31, hc32⟩ := win_form hL3.win
    unfold maxLen at hc32
    have HR3 : Hid (RowF w w3 r (foundE (bodK s.now k ++ (scanB (sec s.now k)).take 0)) ∧ ∀ g, r.ownBlock = some g → g < w2.heap.size ∨ w3.heap.size ≤ g) := by
      rw [List.take_zero, List.append_nil]
      exact ⟨HRow.out.later (hB2.trans (hB3.mono hB2.size)), fun g hg => .inl (Nat.lt_of_lt_of_le (HRow.out.1.lt g hg) hB2.size)⟩
    have HBk : Hid ((bodK s.now k).length ≤ 32768) := by
      have := bodK_len HOk.out k (by omega)
      show _ ≤ _
      omega
    have HSu : Hid (bodK s.now (k + 1) = bodK s.now k ++ scanB (sec s.now k)) := bodK_succ s.now k
    have h32 := hB3.size
    clear HSc hL3 hB2 hB3 HRow hB02
    generalize scanB (sec s.now k) = ls at *
    go_wp2_with fail
    go_loopg [3, 8] ls.length (fun gk2 rv i wr2 => ∃ (j : Nat) (r : Value), j + gk2 = ls.length ∧ r = rv ∧ i = .int .i64 (j : Int) ∧ (RowF w wr2 r (foundE (bodK s.now k ++ ls.take j)) ∧ ∀ g, r.ownBlock = some g → g < w2.heap.size ∨ w3.heap.size ≤ g) ∧ Below w.heap.size w wr2 ∧ (∀ g, w2.heap.size ≤ g → g < w3.heap.size → wr2.heap[g]? = w3.heap[g]?) ∧ w3.heap.size ≤ wr2.heap.size)
    case atStart => exact ⟨0, _, by omega, rfl, rfl, HR3.out, hB03, fun _ _ _ => rfl, Nat.le_refl _⟩
    case round =>
      obtain ⟨wy, rfl⟩ : ∃ wy, wy = wr := ⟨wr, rfl⟩
      obtain ⟨j, r, hj, rfl, rfl, hrow, hB4, hkp, hs4⟩ := hrel
      have HRow : Hid (RowF w wy r (foundE (bodK s.now k ++ ls.take j)) ∧ ∀ g, r.ownBlock = some g → g < w2.heap.size ∨ w3.heap.size ≤ g) := hrow
      have HK : Hid (∀ g, w2.heap.size ≤ g → g < w3.heap.size → wy.heap[g]? = w3.heap[g]?) := hkp
      clear hrow hkp
      by_cases hlt2 : j < ls.length
      case neg =>
        have hge : ¬ (j : Int) < (ls.length : Int) := by omega
        have hje : ls.take j = ls := List.take_of_length_le (by omega)
        rw [hje, ← HSu.out] at HRow
        go_wp2
        go_roundg (s.n - (k + 1))
        case rel => exact ⟨k + 1, _, by omega, rfl, by go_num, HRow.out.1, hB4⟩
        case measure => omega
      have hltI2 : (j : Int) < (ls.length : Int) := by omega
      have hLy := lst_at HL.out HK.out hs4
      obtain ⟨LB, LO, lc, hvv, hlc, hlm, hcel⟩ := hLy.read (by omega)
      cases hvv
      have hc0 := hcel j hlt2
      have hbt := hLy.bts j hlt2
      have HS : Hid (foundE (bodK s.now k ++ ls.take (j + 1)) = foundE (bodK s.now k ++ ls.take j) ++ (if whyE (ls.getD j []) = 0 then [entE (ls.getD j [])] else [])) := by
        show _ = _
        rw [found_app, found_app, found_snoc ls j hlt2, List.append_assoc]
      have HLe : Hid ((foundE (bodK s.now k ++ ls.take j)).length ≤ 100000) := by
        have h1 := found_len (bodK s.now k ++ ls.take j)
        rw [List.length_append, List.length_take] at h1
        have h2 := HBk.out
        show _ ≤ _
        omega
      have hDc := decode_any (vs3.getD j undef) (ls.getD j []) wy hbt
      obtain ⟨ba, bc, hbv, _⟩ := bts_src hbt
      rw [hbv] at hc0 hDc
      have hbsz := hB4.size
      clear hbt hcel hbv hLy
      generalize foundE (bodK s.now k ++ ls.take j) = F at *
      generalize entE (ls.getD j []) = e at *
      generalize whyE (ls.getD j []) = y at *
      generalize (ls.getD j []).length = bn at *
      obtain ⟨k0, k1, k2, k3, k4⟩ := e
      go_wp2_with fail
      refine (by exact hDc : Calls _ _ _ _ _).mono ?_
      rintro e w5 ⟨rfl, hB5⟩
      have hB05 := hB4.trans (hB5.mono hbsz)
      have hB6 := hB5.trans ((below_alloc w5 (.cells #[.int .i64 k0, .int .i64 k1, .int .u32 k2, .int .u32 k3, .int .i64 k4] 73)).mono hB5.size)
      have hB06 := hB4.trans (hB6.mono hbsz)
      have hk6 : ∀ g, w2.heap.size ≤ g → g < w3.heap.size → (w5.alloc (.cells #[.int .i64 k0, .int .i64 k1, .int .u32 k2, .int .u32 k3, .int .i64 k4] 73)).heap[g]? = w3.heap[g]? := fun g h1 h2 => (hB6.block g (by omega)).trans (HK.out g h1 h2)
      have hr6 := HRow.out.1.later hB6
      have hs6 := Nat.le_trans hs4 hB6.size
      by_cases hy : y = 0
      · subst hy
        rw [if_pos rfl] at HS
        obtain ⟨a7, c7, w7, hr7, hwin7, hkp7, hown7, hg7⟩ := append_w (w5.alloc (.cells #[.int .i64 k0, .int .i64 k1, .int .u32 k2, .int .u32 k3, .int .i64 k4] 73)) r F ⟨k0, k1, k2, k3, k4⟩ hr6.1 (by have := HLe.out; omega)
        have hs7 := hg7.size
        have h66 := below_alloc (w5.alloc (.cells #[.int .i64 k0, .int .i64 k1, .int .u32 k2, .int .u32 k3, .int .i64 k4] 73)) (.cells #[.int .i64 k0, .int .i64 k1, .int .u32 k2, .int .u32 k3, .int .i64 k4] 73)
        have hs67 := Nat.le_trans h66.size hs7
        have HR7 : Hid ((RowF w w7 (.slice a7 (F.length + 1) c7) (F ++ [(⟨k0, k1, k2, k3, k4⟩ : En)]) ∧ ∀ g, (Value.slice a7 (F.length + 1) c7).ownBlock = some g → g < w2.heap.size ∨ w3.heap.size ≤ g) ∧ Below w.heap.size w w7 ∧ (∀ g, w2.heap.size ≤ g → g < w3.heap.size → w7.heap[g]? = w3.heap[g]?) ∧ w3.heap.size ≤ w7.heap.size) := by
          refine ⟨⟨⟨hwin7, fun g hg => ?_⟩, fun g hg => ?_⟩, ?_, fun g h1 h2 => ?_, Nat.le_trans hs6 hs67⟩
          · rcases hown7 g hg with e1 | e1
            · exact HRow.out.1.2 g e1
            · exact Nat.le_trans hB06.size e1
          · rcases hown7 g hg with e1 | e1
            · exact HRow.out.2 g e1
            · exact .inr (Nat.le_trans hs6 e1)
          · exact (hB06.trans (h66.mono hB06.size)).grown hg7 (Nat.le_trans hB06.size h66.size) (fun g hg => HRow.out.1.2 g hg)
          · rw [hkp7 g (by omega) (fun e1 => by have := HRow.out.2 g e1; omega)]
            exact hk6 g h1 h2
        obtain ⟨ra, rc, rfl, _⟩ := win_form HRow.out.1.1
        simp only [World.size_alloc] at hr7
        clear hwin7 hkp7 hown7 hg7 hs7 h66 hs67 hr6 hk6 hB6 hB05 hB06 hDc
        go_wp2_with (at_builtin; refine wpl_append_run rfl _ _ 63 rfl _ _ rfl rfl hr7 ?_)
        go_roundg (ls.length - (j + 1))
        case rel => exact ⟨j + 1, _, by omega, rfl, by go_num, by rw [HS.out]; exact HR7.out.1, HR7.out.2⟩
        case measure => omega
      · rw [if_neg hy, List.append_nil] at HS
        have HR6 : Hid ((RowF w (w5.alloc (.cells #[.int .i64 k0, .int .i64 k1, .int .u32 k2, .int .u32 k3, .int .i64 k4] 73)) r F ∧ ∀ g, r.ownBlock = some g → g < w2.heap.size ∨ w3.heap.size ≤ g) ∧ Below w.heap.size w (w5.alloc (.cells #[.int .i64 k0, .int .i64 k1, .int .u32 k2, .int .u32 k3, .int .i64 k4] 73)) ∧ (∀ g, w2.heap.size ≤ g → g < w3.heap.size → (w5.alloc (.cells #[.int .i64 k0, .int .i64 k1, .int .u32 k2, .int .u32 k3, .int .i64 k4] 73)).heap[g]? = w3.heap[g]?) ∧ w3.heap.size ≤ (w5.alloc (.cells #[.int .i64 k0, .int .i64 k1, .int .u32 k2, .int .u32 k3, .int .i64 k4] 73)).heap.size) :=
          ⟨⟨hr6, HRow.out.2⟩, hB06, hk6, hs6⟩
        have hy' : (y == 0) = false := by simpa using hy
        clear hr6 hk6 hB6 hB05 hB06 hDc hs6
        go_wp2
        go_roundg (ls.length - (j + 1))
        case rel => exact ⟨j + 1, _, by omega, rfl, by go_num, by rw [HS.out]; exact HR6.out.1, HR6.out.2⟩
        case measure => omega

end Go.Proofs.YtafkkehcacdodaaGreat
