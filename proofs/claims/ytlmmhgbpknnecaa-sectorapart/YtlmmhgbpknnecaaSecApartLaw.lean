/- SectorApart: a crash leaves the disk as it is; what is told and handed in is memory of its own. -/
import Derived.Test.YtlmmhgbpknnecaaSecLooks
import Derived.Test.YtlmmhgbpknnecaaRows
set_option maxRecDepth 100000
namespace Go.Proofs.Ytlmmhgbpknnecaa.sectorApart
open Go.ChangeShapes Go.WideShapes Go.ChangeAt Go.RowKit
attribute [local go_sem ↓] Go.wp_at_zero Go.wp_at_succ

/-- The two disks, side by side. -/
structure Both (w : World) (tag : Nat → Nat) (base : Nat) (s : St) (p : PL) (q : ML) : Prop where
  pd : PD w tag base 1 s p
  md : MD w tag base 2 s q

theorem Both.clip {w w' : World} {tag : Nat → Nat} {base : Nat} {s : St} {p : PL} {q : ML} (h : Both w tag base s p q) (hb : Below w.heap.size w w') : Both w' (clip tag w.heap.size) base s p q :=
  ⟨h.pd.clip hb, h.md.keep (fun k hk _ => hb.block k hk) (fun k hk => clip_lt tag _ k hk)⟩

theorem Both.later {w w' : World} {tag : Nat → Nat} {base : Nat} {s : St} {p : PL} {q : ML} (h : Both w tag base s p q) (hb : Below w.heap.size w w') : Both w' tag base s p q :=
  ⟨h.pd.later hb, h.md.later hb⟩

theorem Both.far {w : World} {tag : Nat → Nat} {base : Nat} {s : St} {p : PL} {q : ML} (h : Both w tag base s p q) {g : Nat} (hg : tag g = 0) (j : Nat) (v : Value) : Both (w.setCell ⟨g, j, none⟩ v) tag base s p q :=
  ⟨h.pd.keep (fun k _ ht => heap_setCell_other w ⟨g, j, none⟩ k v (fun e => by have e' : k = g := e; rw [e', hg] at ht; omega)) (fun _ _ => rfl), h.md.keep (fun k _ ht => heap_setCell_other w ⟨g, j, none⟩ k v (fun e => by have e' : k = g := e; rw [e', hg] at ht; omega)) (fun _ _ => rfl)⟩

/-- Bytes that are scribbled over, beside the disks. -/
structure Scr (w0 : World) (tag : Nat → Nat) (base : Nat) (s : St) (p : PL) (q : ML) (G cap len : Nat) (wr : World) : Prop where
  both : Both wr tag base s p q
  row : ∃ xs, Row wr 1 G cap len xs
  below : Below base w0 wr

theorem Scr.set {w0 : World} {tag : Nat → Nat} {base : Nat} {s : St} {p : PL} {q : ML} {G cap len : Nat} {wr : World} (h : Scr w0 tag base s p q G cap len wr) (hg : tag G = 0) (hb : base ≤ G) (j : Nat) (v : Value) : Scr w0 tag base s p q G cap len (wr.setCell ⟨G, j, none⟩ v) := by
  obtain ⟨xs, hr⟩ := h.row
  exact ⟨h.both.far hg j v, ⟨_, hr.set j v⟩, h.below.setCell hb v⟩

theorem Scr.cell {w0 : World} {tag : Nat → Nat} {base : Nat} {s : St} {p : PL} {q : ML} {G cap len : Nat} {wr : World} (h : Scr w0 tag base s p q G cap len wr) (j : Nat) (hj : j < len) : (∃ u, wr.cell? ⟨G, j, none⟩ = some u) ∧ wr.frozen? ⟨G, j, none⟩ = false := by
  obtain ⟨xs, hr⟩ := h.row
  exact ⟨⟨_, by rw [hr.cell j (by omega)]; exact List.getElem?_eq_getElem (by have := hr.1; omega)⟩, hr.frozen j⟩

def Inv (w : World) (l : List Dd) (p0 : PL) (q0 : ML) (gk : Nat) (i : Value) (wr : World) : Prop :=
  ∃ (k : Nat) (s : St) (p : PL) (q : ML) (tag : Nat → Nat), k + gk = l.length ∧ p.D = p0.D ∧ q.M = q0.M ∧ i = .int .i64 k ∧ Both wr tag w.heap.size s p q ∧ Few s 4 k ∧ s.outs = [] ∧ Below w.heap.size w wr

set_option maxHeartbeats 16000000 in
theorem walk (v0 v1 : Value) (w : World) (V0 : IsDeeds w v0) (V1 : IsBts w v1) : Calls Try.prog 7 #[v0, v1] w fun e w' => e = .returned (.bool true) ∧ Below w.heap.size w w' := by
  obtain ⟨B, O, l, hd⟩ := V0
  obtain ⟨ch, hch, _⟩ := V1
  have HD : Hid (Deeds w v0 B O l) := hd
  have HC : Hid (Bts w v1 ch) := hch
  obtain ⟨a, cap, rfl, hl, hm, ha, _⟩ := hd
  obtain ⟨ca, cc, rfl, hcl, hcm, _⟩ := bts_src hch
  clear hch
  unfold maxLen at hm hcm
  go_enter Try.func7, Try.ntmps7
  go_wp2_with (go_at_call 9; refine (awake7_ok _).mono ?_; rintro e w1 ⟨rfl, hA⟩)
  have HR := room_ok w1 _ B O l (HD.out.later hA)
  by_cases hr : roomB l = true
  case neg =>
    have hr' : roomB l = false := by simpa using hr
    rw [hr'] at HR
    refine HR.mono ?_
    rintro e w2 ⟨rfl, rfl⟩
    go_wp2_with fail
    go_ret
    exact ⟨rfl, hA⟩
  rw [hr] at HR
  unfold roomB at hr
  simp only [decide_eq_true_eq] at hr
  obtain ⟨hr1, hr2, _⟩ := hr
  refine HR.mono ?_
  rintro e w2 ⟨rfl, rfl⟩
  by_cases hc1 : (1000 : Int) < (ch.length : Int)
  · go_wp2_with fail
    go_ret
    exact ⟨rfl, hA⟩
  have HF := fresh_ok w2 (fun _ => 0) w.heap.size 1 4 4 rfl hA.size (by omega) (by omega)
  go_wp2_with (go_at_call 10; refine HF.mono ?_; rintro e w3 ⟨p, tag, rfl, hP, _, hB⟩)
  have HN : Calls Try.prog 20 #[.int .i64 4] w3 _ := rnew_ok w3 tag w.heap.size 2 4 (Nat.le_trans hA.size hB.size) (by omega) (by omega)
  refine HN.mono ?_
  rintro e w4 ⟨q, tag4, rfl, hQ, hT4, hB4⟩
  have hB3 : Below w.heap.size w w3 := hA.trans (hB.mono hA.size)
  have hB04 : Below w.heap.size w w4 := hB3.trans (hB4.mono hB3.size)
  have hBo : Both w4 tag4 w.heap.size (St.new 4) p q := ⟨hP.keep (fun k hk _ => hB4.block k hk) hT4, hQ⟩
  have HR2 : Hid (∀ d ∈ l, d.b.length ≤ 1000) := hr2
  clear hP hQ hT4 hB hB4 hB3 hA HR hr2 HF HN
  go_wp2_with fail
  go_loopg [8] l.length (fun gk i wr => Inv w l p q gk i wr)
  case atStart => exact ⟨0, _, p, q, tag4, Nat.zero_add _, rfl, rfl, rfl, hBo, ⟨rfl, Nat.le_refl _, Nat.le_refl _⟩, rfl, hB04⟩
  case round =>
    clear hBo hB04
    obtain ⟨k, s, p1, q1, tag1, hk, hD1, hM1, rfl, hBo, hF1, ho1, hB1⟩ := hrel
    by_cases hlt : k < l.length
    · have hltI : (k : Int) < (l.length : Int) := by omega
      rcases ha with rfl | hnil
      case inr => rw [hnil] at hlt; simp at hlt
      obtain ⟨c0, c1, c2, c3, c4⟩ := HD.out.at hB1 k hlt
      have HOK := HD.out.ok k hlt
      have hbl := HR2.out _ (List.getElem_mem hlt)
      have HDD : Hid (∀ wx, Below w.heap.size w wx → DdAt wx B (O + k * 5) l[k]) := fun wx hx => HD.out.at hx k hlt
      generalize l[k] = d at *
      obtain ⟨o1, o2⟩ := HOK.o1
      by_cases h3 : d.dO ≤ 3
      · have HBO : Calls Try.prog 21 #[.agg #[.int .i64 d.dO, .int .i64 d.dA, .int .i64 d.dF, .int .u8 d.dC, d.vb]] wr _ := body_ok wr d (HOK.later hB1) hbl
        have HBo : Hid (Both wr tag1 w.heap.size s p1 q1) := hBo
        have HF1 : Hid (Few s 4 k) := hF1
        have HO1 : Hid (s.outs = []) := ho1
        have HBY : Hid (isBytes (bodyL d)) := bodyL_bytes d HOK
        have x1 : Hid (s.ops ≤ 1000000) := by have := hF1.ops; show _ ≤ _; omega
        have x2 : Hid (s.since.length ≤ 1000000) := by have := hF1.sin; show _ ≤ _; omega
        have x3 : Hid (s.outs.length ≤ 1000000) := by show _ ≤ _; rw [ho1]; decide
        clear hBo hF1 ho1 HOK
        go_wp2_with fail
        refine HBO.mono ?_
        rintro e w5 ⟨v5, rfl, hO5, hB5⟩
        have hB05 : Below w.heap.size w w5 := hB1.trans (hB5.mono hB1.size)
        have hBo5 := HBo.out.clip hB5
        have hH5 : Held w5 (clip tag1 wr.heap.size) v5 (bodyL d) := hO5.held HBY.out
        have HW := write_any w5 (clip tag1 wr.heap.size) w.heap.size 1 s p1 hBo5.pd hB05.size d.dA v5 (bodyL d) hH5.1 (hH5.far 1 (by omega)) x1.out x3.out x2.out p.D hD1
        obtain ⟨_, e1, _, _, _⟩ := HDD.out w5 hB05
        clear HBO hB5 c0 c1 c2 c3 c4
        go_wp2_with fail
        refine HW.mono ?_
        rintro e w6 ⟨rfl, p6, tag6, hD6, hP6, hS6⟩
        have hB06 : Below w.heap.size w w6 := hB05.trans hS6.below
        have hM6 : MD w6 tag6 w.heap.size 2 s q1 := hBo5.md.other hS6 (by omega)
        have hH6 := hH5.step hS6 (by omega)
        have HW2 := rwrite_any w6 tag6 w.heap.size 2 s q1 hM6 hB06.size d.dA v5 (bodyL d) hH6.1 (hH6.far 2 (by omega)) x1.out x3.out x2.out q.M hM1
        obtain ⟨_, e2, _, _, _⟩ := HDD.out w6 hB06
        clear HW e1
        go_wp2_with fail
        refine HW2.mono ?_
        rintro e w7 ⟨rfl, q7, tag7, hD7, hQ7, hS7⟩
        have hB07 : Below w.heap.size w w7 := hB06.trans hS7.below
        have hBo7 : Both w7 tag7 w.heap.size (wS s d.dA (bodyL d)) p6 q7 := ⟨hP6.other hS7 (by omega), hQ7⟩
        have hH7 := hH6.step hS7 (by omega)
        have HFW : Hid (Few (wS s d.dA (bodyL d)) 4 (k + 1)) := HF1.out.wS _ _
        have HOW : Hid ((wS s d.dA (bodyL d)).outs = []) := outs_nil_wS _ _ _ HO1.out
        clear HW2 e2 hM6 hQ7 hP6
        by_cases hem : bodyL d = []
        · obtain ⟨va, vc, hv5, hvl, hvm, _⟩ := bts_src hH7.1
          rw [hem] at hv5
          simp only [List.length_nil] at hv5
          subst hv5
          unfold maxLen at hvm
          clear hO5 hH5 hH6 hH7 hS6 hS7 hBo5 HDD
          go_wp2_with fail
          go_loopg [10] 0 (fun gk i wr => i = .int .i64 0 ∧ wr = w7)
          case atStart => exact ⟨rfl, rfl⟩
          case round =>
            obtain ⟨rfl, rfl⟩ := hrel
            go_wp2_with fail
            go_roundg (l.length - (k + 1))
            case measure => omega
            case rel => exact ⟨k + 1, _, p6, q7, tag7, by omega, hD6, hD7, by go_num, hBo7, HFW.out, HOW.out, hB07⟩
        · obtain ⟨G, cp, hv5, hH⟩ := holds8_of_owns hO5 rfl (List.length_pos_iff.2 hem)
          have hr5 := row_of_owns hH.2
          have hG5 : wr.heap.size ≤ G ∧ G < w5.heap.size := hH.2.lt G rfl
          have t5 : (Go.Proofs.Ytlmmhgbpknnecaa.clip tag1 wr.heap.size) G = 0 := (hH5.2 G (by rw [hv5]; rfl)).1
          have t6 : tag6 G = 0 := (hH6.2 G (by rw [hv5]; rfl)).1
          have t7 : tag7 G = 0 := (hH7.2 G (by rw [hv5]; rfl)).1
          have hr7 : Row w7 1 G cp (bodyL d).length _ := (hr5.same (hS6.kept G hG5.2 (by rw [t5]; omega))).same (hS7.kept G (Nat.lt_of_lt_of_le hG5.2 hS6.below.size) (by rw [t6]; omega))
          have hsc : Scr w tag7 w.heap.size (wS s d.dA (bodyL d)) p6 q7 G cp (bodyL d).length w7 := ⟨hBo7, ⟨_, hr7⟩, hB07⟩
          have hcp1 : (bodyL d).length ≤ cp := hr7.2.1
          have hcp2 : cp ≤ 9223372036854775807 := hr7.2.2.1
          have HGb : Hid (w.heap.size ≤ G) := Nat.le_trans hB1.size hG5.1
          have HT7 : Hid (tag7 G = 0) := t7
          subst hv5
          generalize hLL : (bodyL d).length = L at *
          generalize wS s d.dA (bodyL d) = s7 at *
          clear hO5 hH5 hH6 hH7 hS6 hS7 hBo5 HDD hH hr5 hr7 t5 t6 t7 hem hLL hB05 hB06 hBo7 hB07 HBY
          go_wp2_with fail
          go_loopg [10] L (fun gk i wr => ∃ j : Nat, j + gk = L ∧ i = .int .i64 j ∧ Scr w tag7 w.heap.size s7 p6 q7 G cp L wr)
          case atStart => exact ⟨0, Nat.zero_add _, rfl, hsc⟩
          case round =>
            clear hsc
            obtain ⟨j, hj, rfl, hsc⟩ := hrel
            by_cases hjl : j < L
            · have hjI : (j : Int) < (L : Int) := by omega
              obtain ⟨⟨u, cu⟩, fu⟩ := hsc.cell j hjl
              have HSC : Hid _ := hsc.set HT7.out HGb.out j (.int .u8 99)
              clear hsc
              go_wp2
              go_roundg (L - (j + 1))
              case measure => omega
              case rel => exact ⟨j + 1, by omega, by go_num, HSC.out⟩
            · have hjI : ¬ (j : Int) < (L : Int) := by omega
              have HSC : Hid (Scr w tag7 w.heap.size s7 p6 q7 G cp L _) := hsc
              clear hsc
              go_wp2
              go_roundg (l.length - (k + 1))
              case measure => omega
              case rel => exact ⟨k + 1, _, p6, q7, tag7, by omega, hD6, hD7, by go_num, HSC.out.both, HFW.out, HOW.out, HSC.out.below⟩
      · clear HDD HOK
        go_wp2_with fail
        go_roundg (l.length - (k + 1))
        case measure => omega
        case rel => exact ⟨k + 1, s, p1, q1, tag1, by omega, hD1, hM1, by go_num, hBo, hF1.mono, ho1, hB1⟩
    · have hke : k = l.length := by omega
      subst hke
      have HCr := crash_okD wr tag1 w.heap.size 1 3 s p1 hBo.pd hB1.size (by have := hF1.sin; omega) _ ch (HC.out.later hB1) p.D hD1
      have HN4 : Hid (s.n = 4) := hF1.n
      have HBo : Hid (Both wr tag1 w.heap.size s p1 q1) := hBo
      clear hBo hF1 ho1
      go_wp2_with fail
      refine HCr.mono ?_
      rintro e w5 ⟨p5, tag5, rfl, hP5, hT5, hB5⟩
      have hB05 : Below w.heap.size w w5 := hB1.trans (hB5.mono hB1.size)
      have hBo5 : Both w5 tag5 w.heap.size s p1 q1 := ⟨HBo.out.pd.keep (fun g hg _ => hB5.block g hg) hT5, HBo.out.md.keep (fun g hg _ => hB5.block g hg) hT5⟩
      clear HCr hT5 hB5
      go_wp2_with fail
      refine (ones_ok w5 7).mono ?_
      rintro e w6 ⟨v6, rfl, hO6, hB6⟩
      have hB06 : Below w.heap.size w w6 := hB05.trans (hB6.mono hB05.size)
      have HW := write_any w6 (Go.Proofs.Ytlmmhgbpknnecaa.clip tag5 w5.heap.size) w.heap.size 3 (s.crash ch) p5 (hP5.clip hB6) hB06.size 0 v6 (List.replicate 64 7) (hO6.bts (isBytes_rep _ _ (by decide))) (hO6.tag0 tag5 3 (by omega)) (by show 0 ≤ 1000000; omega) (by show 0 ≤ 1000000; omega) (by show 0 ≤ 1000000; omega) p5.D rfl
      have hBo6 := hBo5.clip hB6
      clear hP5 hO6 hB6 hBo5
      go_wp2_with fail
      refine HW.mono ?_
      rintro e w7 ⟨rfl, p7, tag7, hD7, hP7, hS7⟩
      have hB07 : Below w.heap.size w w7 := hB06.trans hS7.below
      have hBo7 : Both w7 tag7 w.heap.size s p1 q1 := ⟨hBo6.pd.other hS7 (by omega), hBo6.md.other hS7 (by omega)⟩
      have HRd := read_ok w7 tag7 w.heap.size 1 s p1 hBo7.pd 1 (by rw [HN4.out]; omega)
      rw [hD1] at HRd
      have hsl : (sec s.now 1).length = 64 := sec_len hBo7.pd.ok.nl (by rw [HN4.out]; omega)
      clear HW hS7 hP7 hBo6
      go_wp2_with fail
      refine HRd.mono ?_
      rintro e w8 ⟨rfl, hw8⟩
      have hB8 : Below w7.heap.size w7 w8 := by rw [hw8]; exact below_alloc _ _
      have hbk : Blk w8 w7.heap.size (bytesV (sec s.now 1)) := by rw [hw8]; exact blk_new _ _ _
      have hr8 : Row w8 1 w7.heap.size 64 64 (bytesV (sec s.now 1)) := ⟨by simp [hsl], Nat.le_refl _, by decide, _, hbk, by simp [hsl], List.take_of_length_le (by simp [hsl])⟩
      have hBo8 : Both w8 (Go.Proofs.Ytlmmhgbpknnecaa.clip tag7 w7.heap.size) w.heap.size s p1 q1 := hBo7.clip hB8
      have hsc : Scr w (Go.Proofs.Ytlmmhgbpknnecaa.clip tag7 w7.heap.size) w.heap.size s p1 q1 w7.heap.size 64 64 w8 := ⟨hBo8, ⟨_, hr8⟩, hB07.trans (hB8.mono hB07.size)⟩
      have HGb : Hid (w.heap.size ≤ w7.heap.size) := hB07.size
      have HT8 : Hid (Go.Proofs.Ytlmmhgbpknnecaa.clip tag7 w7.heap.size w7.heap.size = 0) := by show _ = _; simp [Go.Proofs.Ytlmmhgbpknnecaa.clip]
      generalize Go.Proofs.Ytlmmhgbpknnecaa.clip tag7 w7.heap.size = tag8 at *
      generalize w7.heap.size = G at *
      clear HRd hw8 hB8 hbk hr8 hBo8 hBo7 hsl
      go_wp2_with fail
      go_loopg [14] 64 (fun gk i wr => ∃ j : Nat, j + gk = 64 ∧ i = .int .i64 j ∧ Scr w tag8 w.heap.size s p1 q1 G 64 64 wr)
      case atStart => exact ⟨0, Nat.zero_add _, rfl, hsc⟩
      case round =>
        clear hsc
        obtain ⟨j, hj, rfl, hsc⟩ := hrel
        by_cases hjl : j < 64
        · have hjI : (j : Int) < 64 := by omega
          obtain ⟨⟨u, cu⟩, fu⟩ := hsc.cell j hjl
          have HSC : Hid _ := hsc.set HT8.out HGb.out j (.int .u8 98)
          clear hsc
          go_wp2
          go_roundg (64 - (j + 1))
          case measure => omega
          case rel => exact ⟨j + 1, by omega, by go_num, HSC.out⟩
        · have hjI : (64 : Int) ≤ (j : Int) := by omega
          have HL := looks_ok _ tag8 tag8 w.heap.size 1 2 s p1 q1 hsc.both.pd hsc.both.md
          rw [hD1, hM1] at HL
          have hBf := hsc.below
          clear hsc
          go_wp2_with fail
          refine HL.mono ?_
          rintro e w9 ⟨rfl, hB9⟩
          go_wp2_with fail
          go_ret
          exact ⟨rfl, hBf.trans (hB9.mono hBf.size)⟩

set_option maxRecDepth 100000 in
theorem lifted (os : Os) (started : os.Started) (H : Type) (enc : TypeId × Value → H) :
    ReturnsInHanded {} Try.checked os 7 .any (Rows.sectorApartSpec.pre6 enc Try.prog Try.f7 Rows.sectorApartRow.domain false) (Rows.sectorApartSpec.post enc Try.prog Try.f7 false true false false) := by
  refine returnsInHanded_of_change_sized (C := Try.checked) own started (by kernel_rfl) Try.func7
    (ChangeSpec.witness6 (enc := enc) (C := Try.checked) false ⟨#[], #[.slice none 0 0, .slice none 0 0], []⟩ 8 (by kernel_rfl) (by kernel_rfl) (by kernel_rfl) (by kernel_rfl)) ?_
  intro W base args ds gs before hval0 hW hcnd hsz0 _
  have hval : ∀ (j : Nat) t v, Try.f7.params[j]? = some t → args[j]? = some v → Value.okWide Try.prog W .any base t v := hval0
  have hsz : ∀ n ∈ DataW.weightsEach Try.prog (Try.f7.params.toList ++ Rows.sectorApartSpec.plain.varTypes Try.prog) (ds ++ gs), n ≤ reachBytes := fun n hn => by simpa using List.all_eq_true.1 hsz0 n hn
  have hW' := hW
  obtain ⟨p, q, hA0, hV, rfl, hfz, hnd⟩ := hW
  have hA : DataW.TrodAll enc Try.prog W 0 (fun _ => true) true Try.f7.params.toList args.toList ds p := hA0
  rw [Try.params7] at hA hval hsz
  obtain ⟨v0, vs0, d0, ds0, p0, q0, hargs, rfl, rfl, h0, r0⟩ := trodAll_cons hA
  obtain ⟨v1, vs1, d1, ds1, p1, q1, rfl, rfl, rfl, h1, r1⟩ := trodAll_cons r0
  obtain ⟨rfl, rfl, rfl⟩ := trodAll_nil r1
  obtain rfl : args = #[v0, v1] := by cases args; simp_all
  obtain ⟨rfl, rfl⟩ := trodVars_none hV
  have lt0 : ∀ x ∈ p0, x.block < W.heap.size := by obtain ⟨m, hm⟩ := h0; exact DataW.trod_lt m _ _ _ hm
  have V0 := view37 (hval 0 37 v0 rfl rfl) h0 (fun n hn => hsz n (DataW.weights_mem_each (j := 0) rfl rfl n hn))
  have lt1 : ∀ x ∈ p1, x.block < W.heap.size := by obtain ⟨m, hm⟩ := h1; exact DataW.trod_lt m _ _ _ hm
  have V1 := view26 (hval 1 27 v1 rfl rfl) h1 (fun n hn => hsz n (DataW.weights_mem_each (j := 1) rfl rfl n hn))
  clear hA0 hval0 hsz0 hsz
  refine (walk v0 v1 W V0 V1).mono fun e W' ⟨he, bel⟩ => ?_
  subst he
  exact ⟨_, rfl, _, _, _, [], _, [], hW', trodAll_mk1 (shut_bool Try.underlying4 _), (trodAll_cons_mk (Below.trod laidOut (by kernel_rfl) (of_decide_eq_true (by kernel_rfl)) h0 bel lt0) (trodAll_cons_mk (Below.trod laidOut (by kernel_rfl) (of_decide_eq_true (by kernel_rfl)) h1 bel lt1) trodAll_mk0)), rfl, bel.frame _, fun h => by cases h⟩

theorem over : Rows.sectorApartRow.holds Try.pinned (OpenSpec.ofChange Rows.sectorApartSpec) :=
  OpenClaim.holds_of_wide 7 Try.f7 rfl rfl rfl rfl rfl rfl rfl ⟨rfl, rfl, rfl, rfl, rfl⟩ rfl rfl rfl rfl rfl (by kernel_rfl) Try.func7 (by kernel_rfl)
    (of_decide_eq_true (by kernel_rfl)) (by unfold Func.isWrapper; first | (rw [if_pos (by decide +kernel)]; kernel_rfl) | (rw [if_neg (by decide +kernel)]; exact ⟨rfl, rfl⟩))
    (fun os started H enc _ => lifted os started H enc)

end Go.Proofs.Ytlmmhgbpknnecaa.sectorApart
namespace Go.Proofs.Ytlmmhgbpknnecaa
theorem sectorApart_holds : Rows.SectorApartSaid := sectorApart.over
#print axioms sectorApart_holds
end Go.Proofs.Ytlmmhgbpknnecaa
