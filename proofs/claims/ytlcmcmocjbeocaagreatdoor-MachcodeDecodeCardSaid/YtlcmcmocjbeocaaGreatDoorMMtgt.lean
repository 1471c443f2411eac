import Derived.Test.YtlcmcmocjbeocaaGreatDoorMMlfr
import Derived.Test.YtlcmcmocjbeocaaGreatDoorMMshp
import Derived.Test.YtlcmcmocjbeocaaGreatDoorMBitsm
import Derived.Test.YtlcmcmocjbeocaaGreatDoorMMlow
import Derived.Test.YtlcmcmocjbeocaaGreatDoorMPmem
import Derived.Maps.Range
set_option linter.unusedVariables false
set_option linter.unusedSimpArgs false
section
/-
  The contract of the reference's Target (chapter 26): a program lowered with its plain layouts. Conditions: what holds of a right program of at most 6 slots a function; the alignment is one.
-/
namespace Go.Proofs.YtlcmcmocjbeocaaGreatDoor
open Go.RowKit

structure LowPg2 (F : Pg) : Prop where
  pg : LowPg F
  low : ∀ f ∈ F, ∀ x ∈ f.code, LowOk f.slots.length x
  short : ∀ f ∈ F, f.code.length ≤ 1024
/-- The head h is the frame g, its code a row of the call's own. -/
structure FrRow (w : World) (base : Nat) (h : Fd) (g : Fm) : Prop where
  p : h.p = g.params
  s : h.s = g.size
  n : h.n = g.code.length
  row : w.ownsRow base 64 5 (.slice h.a h.n h.c) h.n (icells g.code)
def FrAll (w : World) (base : Nat) (hh : List Fd) (G : Tg) : Prop := ∀ (j : Nat) (h : Fd) (g : Fm), hh[j]? = some h → G[j]? = some g → FrRow w base h g
theorem FrRow.kept {w w' : World} {base : Nat} {h : Fd} {g : Fm} {row : Option Nat} (H : FrRow w base h g) (hg : w.grownBy w' row) (hne : (Value.slice h.a h.n h.c).ownBlock = none ∨ (Value.slice h.a h.n h.c).ownBlock ≠ row) : FrRow w' base h g := ⟨H.p, H.s, H.n, H.row.kept hg hne⟩
theorem FrRow.call {w w' : World} {base : Nat} {h : Fd} {g : Fm} (H : FrRow w base h g) (hb : Below w.heap.size w w') : FrRow w' base h g := ⟨H.p, H.s, H.n, own_call H.row hb⟩
theorem FrAll.call {w w' : World} {base : Nat} {hh : List Fd} {G : Tg} (H : FrAll w base hh G) (hb : Below w.heap.size w w') : FrAll w' base hh G := fun j h g e1 e2 => (H j h g e1 e2).call hb
theorem FrAll.kept {w w' : World} {base : Nat} {hh : List Fd} {G : Tg} (H : FrAll w base hh G) {b' : Nat} {t' : TypeId} {size' : Nat} {v' : Value} {n' : Nat} {xs' : List Value} (h' : w.ownsRow b' t' size' v' n' xs') (ht : 64 ≠ t') (hg : w.grownBy w' v'.ownBlock) : FrAll w' base hh G := fun j h g e1 e2 => (H j h g e1 e2).kept hg (own_apart (H j h g e1 e2).row h' ht)
theorem FrAll.lower {w : World} {base base' : Nat} {hh : List Fd} {G : Tg} (H : FrAll w base hh G) (hb : base' ≤ base) : FrAll w base' hh G := fun j h g e1 e2 => ⟨(H j h g e1 e2).p, (H j h g e1 e2).s, (H j h g e1 e2).n, own_lower (H j h g e1 e2).row hb⟩
/-- An owned row of such heads is a target. -/
theorem FrAll.tg {w : World} {base n c : Nat} {A : Option Addr} {hh : List Fd} {G : Tg} (H : FrAll w base hh G) (ho : w.ownsRow base 90 3 (.slice A n c) n (fdcells hh)) (hl : hh.length = n) (hg : G.length = n) (hn : n ≤ 1000) (hs : ∀ g ∈ G, g.code.length ≤ 100000) : TgAt w base w.heap.size A n c hh G := by
  obtain ⟨A', c', e, hA, hc, hf, hsee⟩ := own_seen ho
  injection e with e1 _ e2
  subst e1 e2
  refine ⟨hg, ⟨hA, hc, by omega⟩, hf, hsee, by omega, fun k h g e1 e2 => ?_⟩
  have r := H k h g e1 e2
  obtain ⟨A2, c2, e, hA2, hc2, hf2, hsee2⟩ := own_seen r.row
  injection e with e3 _ e4
  have hgs := hs g (List.mem_of_getElem? e2)
  rw [← e3] at hA2 hf2 hsee2
  rw [← e4] at hA2 hc2
  exact ⟨r.p, r.s, r.n.symm, ⟨hA2, hc2, by have := r.n; omega⟩, hf2, hsee2⟩
theorem Tryz.info90 : (Tryz.prog.info? 90).map (fun i => (i.zero, i.size, i.bytes)) = some (some (.agg #[.int .i64 0, .int .i64 0, .slice none 0 0]), 3, 40) := by kernel_rfl
def LtgPost (F : Pg) (al : Int) (n : Nat) (w : World) (e : Ending) (w' : World) : Prop :=
  ∃ (A : Option Addr) (c : Nat) (hh : List Fd), e = .returned (.tuple #[tv al A n c, .int .i64 0]) ∧ TgAt w' w.heap.size w'.heap.size A n c hh (F.map (lowF F al)) ∧ FrAll w' w.heap.size hh (F.map (lowF F al)) ∧ Below w.heap.size w w'
theorem low_size {F : Pg} {al : Int} {f : Fn} (h : ArgOk F f.code) (hs : ∀ u ∈ f.slots, slotB u.1 u.2 = true) (h6 : f.slots.length ≤ 6) (ha : powB al = true) : 0 ≤ (lowF F al f).size ∧ (lowF F al f).size ≤ 268435456 := by
  have hab := argN_b h f.code.length
  rw [List.take_of_length_le (Nat.le_refl _)] at hab
  have hbd := basF_b (a := argN F f.code * 16) (by omega) hs f.slots.length (Nat.le_refl _)
  rw [List.take_of_length_le (Nat.le_refl _)] at hbd
  have hap := powB_b ha
  have hu := upM_b (basF (argN F f.code * 16) f.slots).2 (show 0 < al by omega)
  show 0 ≤ upM (basF (argN F f.code * 16) f.slots).2 al ∧ upM (basF (argN F f.code * 16) f.slots).2 al ≤ 268435456
  omega
theorem ly_see {w : World} {base : Nat} {y : Fd} {F : Pg} {f : Fn} {al : Int} (h : LyRow w base y F f al) : Sees w w.heap.size y.a (cellsE (basF (argN F f.code * 16) f.slots).1) := by
  obtain ⟨A, c, e, _, _, _, hs⟩ := own_seen h.row
  injection e with e1 _ _
  rwa [← e1] at hs

set_option maxRecDepth 100000 in
set_option maxHeartbeats 4000000 in
theorem ltgt_any (A : Option Addr) (n c : Nat) (hs : List Hd) (F : Pg) (lo B : Nat) (al : Int) (A2 : Option Addr) (c2 : Nat) (ys : List Fd) (base : Nat) (w : World) (H : Hid (PgAt w lo B A n c hs F)) (hB : B ≤ w.heap.size) (hF : Hid (LowPg2 F)) (hal : Hid (powB al = true))
    (hly : Hid (w.ownsRow base 130 3 (.slice A2 n c2) n (fdcells ys))) (hyl : Hid (ys.length = n)) (hall : Hid (LyAll w base ys F al)) :
    Calls Tryz.prog 44 #[gv A n c, .int .i64 al, .slice A2 n c2] w (LtgPost F al n w) := by
  obtain ⟨i0, hi, hz0, hz1, hz2⟩ := info_parts Tryz.info90
  have HL := hide H.out.len
  have h80 : n ≤ 80 := by have := hF.out.pg.few; have := HL.out; omega
  obtain ⟨W1, hW1, hb1, hs1, r0, r1⟩ := boxes2q w [.slice A n c] [.int .i64 0, .slice none 0 0] 26 53
  have HW1 := hide hW1
  have HB1 := hide hb1
  have R0 := hide r0
  have R1 := hide r1
  have t0 := r0.cell (k := 0) rfl
  have hnn : ((n : Int) != (n : Int)) = false := by simp
  clear hW1 hb1 hs1 r0 r1
  go_enter Tryz.func44, Tryz.ntmps44
  go_upto_region 1 with (fail)
  rw [HW1.out]
  clear HW1
  go_wp2_with fail
  clear t0
  go_loopw [8, 9] (fun v s wr => ∃ (k : Nat) (A' : Option Addr) (c' : Nat) (hh : List Fd), k ≤ n ∧ s = .int .i64 k ∧ v = .slice A' k c' ∧ Hid (hh.length = k) ∧ Hid (wr.ownsRow W1.heap.size 90 3 (.slice A' k c') k (fdcells hh)) ∧ Hid (FrAll wr W1.heap.size hh (F.map (lowF F al))) ∧ Hid (Below W1.heap.size W1 wr)) (fun _ s _ => n - (intOf s).toNat)
  case atStart => exact ⟨0, none, 0, [], by omega, rfl, rfl, hide rfl, hide (World.ownsRow_nil _ _ _ _), hide (fun j y f e1 e2 => by simp at e1), hide (Below.refl _ _)⟩
  case round =>
    obtain ⟨k, A', c', hh, hk, rfl, rfl, hhl, hown, hfr, hbr⟩ := hrel
    have HBW := hide (HB1.out.trans (hbr.out.mono HB1.out.size))
    by_cases hlt : k < n
    · have hkl : k < F.length := by have := HL.out; omega
      have hky : k < ys.length := by have := hyl.out; omega
      have hx := List.getElem?_eq_getElem hkl
      have hm := List.getElem_mem hkl
      have hyk := List.getElem?_eq_getElem hky
      have HALL := hide (hall.out.call (HBW.out))
      have hlr := HALL.out k _ _ hyk hx
      have hss := low_size (hF.out.pg.arg _ hm) (hF.out.pg.slot _ hm) (hF.out.pg.six _ hm) hal.out
      obtain ⟨A9, c9, e9, -, -, -, hsee9⟩ := own_seen (own_call hly.out HBW.out)
      injection e9 with e9a _ e9b
      subst e9a e9b
      obtain ⟨bb, oo, rfl, hbb, y0, y1, y2⟩ := fd_at hsee9 hky
      obtain ⟨f, hf⟩ : ∃ f, F[k] = f := ⟨_, rfl⟩
      obtain ⟨y, hy⟩ : ∃ y, ys[k] = y := ⟨_, rfl⟩
      rw [hf] at hx hlr hss hm
      rw [hy] at hlr y0 y1 y2
      have HX := hide hx
      have HFM := hide (show (F.map (lowF F al))[k]? = some (lowF F al f) by rw [List.getElem?_map, hx]; rfl)
      have hys : y.s = (lowF F al f).size := hlr.s
      have HLS := hide (ly_see hlr)
      have HLY := hide (show y.p = argN F f.code * 16 ∧ y.s = upM (basF (argN F f.code * 16) f.slots).2 al ∧ y.n = f.slots.length from ⟨hlr.p, hlr.s, hlr.n⟩)
      have HBL := hide (show (basF (argN F f.code * 16) f.slots).1.length = f.slots.length by have := basF_len (argN F f.code * 16) f.slots f.slots.length (Nat.le_refl _); rwa [List.take_of_length_le (Nat.le_refl _)] at this)
      have cs : ∀ p : After wr, Calls Tryz.prog 74 #[gv A n c, .int .i64 (k : Int), .int .i64 al, mv y.p y.s y.a y.n y.c] p.w fun e w' => e = .returned (.int .i64 0) ∧ Below p.w.heap.size p.w w' := fun p =>
        rshape25_any A n c hs F lo B k f al y wr.heap.size p.w (hide (H.out.below ((HBW.out.trans (p.b.mono HBW.out.size)).mono hB))) (Nat.le_trans hB (Nat.le_trans HBW.out.size p.b.size)) (hide hF.out.pg) HX hal HLY (hide (HLS.out.below p.b)) p.b.size
      have cf : ∀ W, Below wr.heap.size wr W → Calls Tryz.prog 75 #[gv A n c, .int .i64 (k : Int), mv y.p y.s y.a y.n y.c] W (LfrPost F al f W) := fun W hW =>
        lfrm_any A n c hs F lo B k f al y wr.heap.size W (hide (H.out.below ((HBW.out.trans (hW.mono HBW.out.size)).mono hB))) (Nat.le_trans hB (Nat.le_trans HBW.out.size hW.size)) HX (by rw [hys]; exact hss) (hide (hF.out.low _ hm)) (hF.out.short _ hm) (hide ⟨hys, hlr.n⟩) HBL (hide (HLS.out.below hW)) hW.size
      have CS := hide cs
      have CF := hide cf
      have t0 := (R0.out.call hbr.out).cell (k := 0) rfl
      have t0' := after_cell t0
      have y0' := after_cell y0
      have y1' := after_cell y1
      have y2' := after_cell y2
      have hkz : (0 : Int) ≤ (k : Int) := by omega
      have hkz' : (k : Int) < (n : Int) := by omega
      obtain ⟨yp, yss, yA, yn, yc⟩ := y
      simp only at y0' y1' y2'
      clear hf hy hx hm hyk hlr hss hys hsee9 cs cf y0 y1 y2 t0 hbb HALL
      go_upto_region 7 with (fail)
      refine wp_region_after (by kernel_rfl) (by kernel_rfl) ?_
      repeat (go_big_quiet_step ((go_at_call 74; with_reducible exact after_of (CS.out _))))
      refine wpQuiet_nil ?_
      intro _ hw'
      obtain ⟨p1, hw''⟩ := hw'
      subst hw''
      have hown5 := hide (own_call hown.out p1.b)
      have hfr5 := hide (hfr.out.call p1.b)
      have hbr5 := hide (below_call hbr.out p1.b)
      have CF5 := hide (fun W (hW : Below p1.w.heap.size p1.w W) => CF.out W (below_call p1.b hW))
      have t0 := t0' p1
      have y0 := y0' p1
      have y1 := y1' p1
      have y2 := y2' p1
      obtain ⟨W5, hW5⟩ : ∃ V, p1.w = V := ⟨_, rfl⟩
      rw [hW5] at hown5 hfr5 hbr5 CF5 t0 y0 y1 y2 ⊢
      clear hW5 t0' y0' y1' y2' CS CF
      go_upto_region 9 with (fail)
      have hFN := hide (show (lowF F al f).code.length = f.code.length by unfold lowF; simp)
      go_region_law
        (first
          | (go_simp; go_at_call 75; refine (CF5.out _ (Below.refl _ _).drew).mono ?_; rintro e w3 ⟨A3, c3, rfl, hcr, hb3⟩; have hb3' : Below W5.heap.size W5 w3 := (Below.refl W5.heap.size W5).drew.trans hb3; have ho3 := own_call hown5.out hb3'; have hb4 := (below_call hbr5.out hb3').alloc (below_call hbr5.out hb3').size (.cells #[.int .i64 (lowF F al f).params, .int .i64 (lowF F al f).size, .slice A3 f.code.length c3] 90); have hcel := fun (j : Nat) (u : Value) (hu : ([.int .i64 (lowF F al f).params, .int .i64 (lowF F al f).size, .slice A3 f.code.length c3] : List Value)[j]? = some u) => (show (w3.alloc (.cells #[.int .i64 (lowF F al f).params, .int .i64 (lowF F al f).size, .slice A3 f.code.length c3] 90)).cell? ((⟨w3.heap.size, 0, none⟩ : Addr).add j) = some u by rw [WideShapes.add_plain, Nat.zero_add]; exact (Row.new w3 90 [.int .i64 (lowF F al f).params, .int .i64 (lowF F al f).size, .slice A3 f.code.length c3]).cell hu); have hone : ∀ u ∈ ([.int .i64 (lowF F al f).params, .int .i64 (lowF F al f).size, .slice A3 f.code.length c3] : List Value), u.oneCell' = true := fdcells_oneCell [⟨(lowF F al f).params, (lowF F al f).size, A3, f.code.length, c3⟩]; have hbase : W1.heap.size ≤ (w3.alloc (.cells #[.int .i64 (lowF F al f).params, .int .i64 (lowF F al f).size, .slice A3 f.code.length c3] 90)).heap.size := hb4.size)
          | (refine wp_append_own _ (.tmp 33) (.tmp 41) 51 rfl W1.heap.size 90 i0 (.agg #[.int .i64 0, .int .i64 0, .slice none 0 0]) 3 40 Tryz.underlying51 hi hz0 hz1 hz2 rfl (by decide) (.slice A' k c') k (fdcells hh) rfl (ho3.alloc _) ⟨w3.heap.size, 0, none⟩ 1 1 [.int .i64 (lowF F al f).params, .int .i64 (lowF F al f).size, .slice A3 f.code.length c3] rfl rfl hcel hone (by unfold maxLen; omega) (by omega) hbase ?_; intro v2 w7 ho2 hg2 _; obtain ⟨A7, c7, rfl, -, -, -, -⟩ := own_seen ho2))
      all_goals
        have HB7 := hide (hb4.grown hg2 hb4.size (fun q hq => ((ho3.alloc (.cells #[.int .i64 (lowF F al f).params, .int .i64 (lowF F al f).size, .slice A3 f.code.length c3] 90)).lt q hq).1))
        have ho5 := ho3.alloc (.cells #[.int .i64 (lowF F al f).params, .int .i64 (lowF F al f).size, .slice A3 f.code.length c3] 90)
        have hb45 := below1 w3 (.cells #[.int .i64 (lowF F al f).params, .int .i64 (lowF F al f).size, .slice A3 f.code.length c3] 90)
        have HR3 : FrRow w3 W1.heap.size ⟨(lowF F al f).params, (lowF F al f).size, A3, f.code.length, c3⟩ (lowF F al f) := ⟨rfl, rfl, hFN.out.symm, own_lower hcr (show W1.heap.size ≤ W5.heap.size from hbr5.out.size)⟩
        have HA7 := hide (((hfr5.out.call hb3').call hb45).kept ho5 (by decide) hg2)
        have HY7 := hide ((HR3.call hb45).kept hg2 (own_apart (HR3.call hb45).row ho5 (by decide)))
        have HO7 := hide (show w7.ownsRow W1.heap.size 90 3 (.slice A7 (k + 1) c7) (k + 1) (fdcells (hh ++ [⟨(lowF F al f).params, (lowF F al f).size, A3, f.code.length, c3⟩])) by rw [fdcells_append]; exact ho2)
        have HALL := hide (show FrAll w7 W1.heap.size (hh ++ [⟨(lowF F al f).params, (lowF F al f).size, A3, f.code.length, c3⟩]) (F.map (lowF F al)) from fun j h g e1 e2 => by
          rcases Nat.lt_or_ge j k with hj | hj
          · rw [List.getElem?_append_left (by have := hhl.out; omega)] at e1
            exact HA7.out j h g e1 e2
          · rw [List.getElem?_append_right (by have := hhl.out; omega), hhl.out] at e1
            rcases Nat.lt_or_ge (j - k) 1 with h1 | h1
            · obtain rfl : j = k := by omega
              simp at e1
              subst e1
              rw [HFM.out] at e2
              injection e2 with e2
              subst e2
              exact HY7.out
            · rw [List.getElem?_eq_none (by simpa using h1)] at e1; cases e1)
        clear ho2 hg2 ho3 ho5 hb3 hb3' hb4 hb45 hcel hone hbase hcr HR3
        go_wp2_with fail
        go_roundw
        case rel => exact ⟨k + 1, A7, c7, _, by omega, by go_num, rfl, hide (by rw [List.length_append, hhl.out]; rfl), HO7, HALL, HB7⟩
        case measure => simp [intOf]; omega
    · obtain rfl : k = n := by omega
      have RR5 := hide (R1.out.call hbr.out)
      have v0 := RR5.out.cell (k := 0) rfl
      have v1 := RR5.out.cell (k := 1) rfl
      have z0 := RR5.out.free 0
      have z1 := RR5.out.free 1
      have HTG := hide (hfr.out.tg hown.out hhl.out (by rw [List.length_map]; exact HL.out) (by omega) (fun g hg => by
        obtain ⟨f, hf, rfl⟩ := List.mem_map.1 hg
        have := hF.out.short f hf
        show (f.code.map _).length ≤ 100000
        rw [List.length_map]; omega))
      go_wp2_with fail
      obtain ⟨W9, hW9⟩ : ∃ V, (wr.setCell ⟨w.heap.size + 1, 0, none⟩ (.int .i64 al)).setCell ⟨w.heap.size + 1, 1, none⟩ (.slice A' k c') = V := ⟨_, rfl⟩
      have R9 : Row W9 (w.heap.size + 1) 53 [.int .i64 al, .slice A' k c'] := by rw [← hW9]; exact (RR5.out.set_ 0 _).set_ 1 _
      have B9 : Below w.heap.size w W9 := by rw [← hW9]; exact (HBW.out.setCell (p := ⟨w.heap.size + 1, 0, none⟩) (by simp) _).setCell (p := ⟨w.heap.size + 1, 1, none⟩) (by simp) _
      have hl1 := R1.out.lt
      have hs9 : W9.heap.size = wr.heap.size := by rw [← hW9]; simp [World.setCell]
      have T9 : TgAt W9 w.heap.size W9.heap.size A' k c' hh (F.map (lowF F al)) := by
        rw [hs9]
        refine (HTG.out.keep (w' := W9) fun p h1 h2 => ?_).more (Nat.le_refl _) HB1.out.size
        rw [← hW9]
        rw [World.cell?_setCell_other _ _ _ _ (fun e => by subst e; simp at h1; omega), World.cell?_setCell_other _ _ _ _ (fun e => by subst e; simp at h1; omega)]
      have F9 : FrAll W9 w.heap.size hh (F.map (lowF F al)) := fun j h g e1 e2 => by
        have r := hfr.out j h g e1 e2
        refine ⟨r.p, r.s, r.n, own_lower (?_ : W9.ownsRow W1.heap.size 64 5 _ _ _) HB1.out.size⟩
        rw [← hW9]
        exact ownsRow_setCell_below (ownsRow_setCell_below r.row (a := ⟨w.heap.size + 1, 0, none⟩) (by simp; omega) _) (a := ⟨w.heap.size + 1, 1, none⟩) (by simp; omega) _
      rw [hW9]
      have k0 := R9.cell (k := 0) rfl
      have k1 := R9.cell (k := 1) rfl
      refine bodyPost_ret (v := .tuple #[tv al A' k c', .int .i64 0]) (by simp [results, Tryz.results44, go_sem, k0, k1]) rfl ?_
      exact ⟨A', c', hh, rfl, T9, F9, B9⟩
end Go.Proofs.YtlcmcmocjbeocaaGreatDoor
end

section
/-
  The contract of spillframedraw's Word. Conditions: the receiver is a list of choices.
-/
namespace Go.Proofs.YtlcmcmocjbeocaaGreatDoor
open Go.RowKit

/-- A word of 64 bits. -/
def isW (v : Int) : Prop := 0 ≤ v ∧ v ≤ 18446744073709551615
theorem wrap_isW (z : Int) : isW (IntKind.u64.wrap z) := by
  simp only [isW, IntKind.wrap, IntKind.signed, IntKind.bits]
  simp
  omega
def WordPost (g : Nat) (w : World) (e : Ending) (w' : World) : Prop := ∃ v : Int, e = .returned (.int .u64 v) ∧ isW v ∧ Codes w' g ∧ w.grownBy w' (some g) ∧ w'.heap.size = w.heap.size

set_option maxHeartbeats 1000000 in
theorem cword_any (g : Nat) (w : World) (h : Hid (Codes w g)) : Calls Tryz.prog 29 #[.pointer (some ⟨g, 0, none⟩)] w (WordPost g w) := by
  have c := next_any g
  go_enter Tryz.func29, Tryz.ntmps29
  go_wp2_with fail
  refine (c 6 _ h (by omega) (by omega)).mono ?_
  rintro e w1 ⟨v, rfl, v0, v1, hC, hG, hz⟩
  have HC := hide hC
  have HG := hide hG
  have HZ := hide hz
  clear hC hG hz
  rcases (show v = 0 ∨ v = 1 ∨ v = 2 ∨ 3 ≤ v by omega) with rfl | rfl | rfl | hv
  · go_wp2_with fail
    refine (c 3 _ HC (by omega) (by omega)).mono ?_
    rintro e w2 ⟨u, rfl, u0, u1, hC2, hG2, hz2⟩
    have HC2 := hide hC2
    have HG2 := hide (HG.out.trans hG2)
    have HZ2 := hide (hz2.trans HZ.out)
    clear hC2 hG2 hz2
    go_wp2_with fail
    go_ret
    exact ⟨_, rfl, ⟨by omega, by omega⟩, HC2.out, HG2.out, HZ2.out⟩
  · go_wp2_with fail
    refine (c 64 _ HC (by omega) (by omega)).mono ?_
    rintro e w2 ⟨u, rfl, u0, u1, hC2, hG2, hz2⟩
    have HC2 := hide hC2
    have HG2 := hide (HG.out.trans hG2)
    have HZ2 := hide (hz2.trans HZ.out)
    clear hC2 hG2 hz2
    go_wp2_with fail
    go_ret
    exact ⟨_, rfl, wrap_isW _, HC2.out, HG2.out, HZ2.out⟩
  · go_wp2_with fail
    go_ret
    exact ⟨0, rfl, ⟨by omega, by omega⟩, HC.out, HG.out, HZ.out⟩
  · have b0 : (v == 0) = false := by simp; omega
    have b1 : (v == 1) = false := by simp; omega
    have b2 : (v == 2) = false := by simp; omega
    go_wp2_with fail
    refine (c 256 _ HC (by omega) (by omega)).mono ?_
    rintro e w2 ⟨u, rfl, u0, u1, hC2, hG2, hz2⟩
    have HC2 := hide hC2
    have HG2 := hide (HG.out.trans hG2)
    have HZ2 := hide (hz2.trans HZ.out)
    clear hC2 hG2 hz2
    go_wp2_with fail
    go_ret
    exact ⟨u, rfl, ⟨by omega, by omega⟩, HC2.out, HG2.out, HZ2.out⟩
end Go.Proofs.YtlcmcmocjbeocaaGreatDoor
end

section
/-
  Lists of pairs that a loop draws: what the loop keeps. No function of the program is named here.
-/
namespace Go.Proofs.YtlcmcmocjbeocaaGreatDoor
open Go.RowKit

theorem two_new (w : World) (x y : Value) (t : TypeId) : ∀ (j : Nat) (u : Value), [x, y][j]? = some u → (w.alloc (.cells #[x, y] t)).cell? ((⟨w.heap.size, 0, none⟩ : Addr).add j) = some u := by
  intro j u hu
  rw [WideShapes.add_plain, Nat.zero_add]
  exact (Row.new w t [x, y]).cell hu
theorem two_cells (x y : Int) : ∀ u ∈ [Value.int .i64 x, Value.int .i64 y], u.oneCell' = true := by
  intro u hu
  simp only [List.mem_cons, List.not_mem_nil, or_false] at hu
  rcases hu with rfl | rfl <;> rfl

/-- What a loop that draws pairs keeps: how many are still to come, the pairs, the choices. -/
def ListRel (ok : Int → Int → Bool) (w0 : World) (g t m : Nat) (nv lv : Value) (wr : World) : Prop :=
  ∃ (k : Nat) (l : List (Int × Int)), k + l.length ≤ m ∧ nv = .int .i64 (k : Int) ∧ wr.ownsRow w0.heap.size t 2 lv l.length (pcells l) ∧ (∀ u ∈ l, ok u.1 u.2 = true) ∧ Codes wr g ∧ w0.grownBy wr (some g)

section
variable {w0 wr w2 w3 : World} {g t : Nat} {lv v' : Value} {l : List (Int × Int)}
theorem own_far (ho : wr.ownsRow w0.heap.size t 2 lv l.length (pcells l)) (hg : g < w0.heap.size) : lv.ownBlock = none ∨ lv.ownBlock ≠ some g := by
  cases e : lv.ownBlock with
  | none => exact .inl rfl
  | some k => exact .inr fun h => by have := (ho.lt k e).1; injection h with h; omega
/-- After choices. -/
theorem own_drawn (ho : wr.ownsRow w0.heap.size t 2 lv l.length (pcells l)) (hg : g < w0.heap.size) (hG : wr.grownBy w2 (some g)) : w2.ownsRow w0.heap.size t 2 lv l.length (pcells l) := ho.kept hG (own_far ho hg)
/-- After an append of one pair. -/
theorem ListRel.step {ok : Int → Int → Bool} {m k : Nat} {x y : Int} {e : TypeId} (hk : k + 1 + l.length ≤ m) (hg : g < w0.heap.size) (ho : w2.ownsRow w0.heap.size t 2 lv l.length (pcells l)) (hok : ∀ u ∈ l, ok u.1 u.2 = true) (hxy : ok x y = true) (hC : Codes w2 g) (hG : w0.grownBy w2 (some g))
    (ho' : w3.ownsRow w0.heap.size t 2 v' (l.length + 1) (pcells l ++ [.int .i64 x, .int .i64 y])) (hg' : (w2.alloc (.cells #[.int .i64 x, .int .i64 y] e)).grownBy w3 lv.ownBlock) :
    ListRel ok w0 g t m (.int .i64 (k : Int)) v' w3 := by
  refine ⟨k, l ++ [(x, y)], by simp; omega, rfl, ?_, fun u hu => ?_, (hC.alloc _).kept hg' (fun j hj => ?_), (hG.trans (World.grownBy_alloc _ _ _)).andThen hg' (fun j hj => .inl (ho.lt j hj).1)⟩
  · rw [pcells_append, pcells_one]
    simpa using ho'
  · rcases List.mem_append.1 hu with h | h
    · exact hok u h
    · simp at h; subst h; exact hxy
  · have := (ho.lt j hj).1
    omega
theorem ListRel.start {ok : Int → Int → Bool} {m k : Nat} (hk : k ≤ m) (hC : Codes wr g) (hG : w0.grownBy wr (some g)) : ListRel ok w0 g t m (.int .i64 (k : Int)) (.slice none 0 0) wr :=
  ⟨k, [], by simpa using hk, rfl, ⟨by simp [pcells], .inl ⟨rfl, rfl⟩⟩, (fun u hu => by cases hu), hC, hG⟩
end
/-- What such a loop leaves. -/
def ListPost (ok : Int → Int → Bool) (g t m : Nat) (w : World) (e : Ending) (w' : World) : Prop :=
  ∃ (A : Option Addr) (c : Nat) (l : List (Int × Int)), e = .returned (.slice A l.length c) ∧ (A = none → c = 0) ∧ w'.ownsRow w.heap.size t 2 (.slice A l.length c) l.length (pcells l) ∧ l.length ≤ m ∧ (∀ u ∈ l, ok u.1 u.2 = true) ∧ Codes w' g ∧ w.grownBy w' (some g)
end Go.Proofs.YtlcmcmocjbeocaaGreatDoor
end

section
/-
  The contract of spillframedraw's like. Conditions: the receiver is a list of choices; the slot is there.
-/
namespace Go.Proofs.YtlcmcmocjbeocaaGreatDoor
open Go.RowKit

/-- Ints as cells. -/
def cellsJ (zs : List Int) : List Value := zs.map (Value.int .i64)
theorem cellsJ_append (l m : List Int) : cellsJ (l ++ m) = cellsJ l ++ cellsJ m := by simp [cellsJ]
theorem cellsJ_length (l : List Int) : (cellsJ l).length = l.length := by simp [cellsJ]
theorem inum_at {w : World} {B : Nat} {A : Option Addr} {zs : List Int} {k : Nat} (h : Sees w B A (cellsJ zs)) (hk : k < zs.length) : ∃ b off, A = some ⟨b, off, none⟩ ∧ b < B ∧ w.cell? ⟨b, off + k, none⟩ = some (.int .i64 zs[k]) :=
  h k (.int .i64 zs[k]) (by simp [cellsJ, List.getElem?_map, List.getElem?_eq_getElem hk])
/-- A slot of the same size as slot s. -/
def LikePost (g : Nat) (l : List (Int × Int)) (s : Int) (w : World) (e : Ending) (w' : World) : Prop := ∃ r : Nat, e = .returned (.int .i64 (r : Int)) ∧ r < l.length ∧ sizeAt l (r : Int) = sizeAt l s ∧ Codes w' g ∧ w.grownBy w' (some g)
/-- What the loop keeps: places of slots of that size, and s among them once it has been passed. -/
def LikeI (g : Nat) (l : List (Int × Int)) (s : Nat) (w w0 : World) (k : Nat) (lv : Value) (wr : World) : Prop :=
  ∃ zs : List Int, zs.length ≤ k ∧ (s < k → zs ≠ []) ∧ (∀ z ∈ zs, ∃ r : Nat, z = (r : Int) ∧ r < l.length ∧ sizeAt l z = sizeAt l (s : Int)) ∧ wr.ownsRow w0.heap.size 3 1 lv zs.length (cellsJ zs) ∧ Codes wr g ∧ w.grownBy wr (some g) ∧ Below w0.heap.size w0 wr
theorem sizeAt_nat (l : List (Int × Int)) (k : Nat) (h : k < l.length) : sizeAt l (k : Int) = l[k].1 := by
  unfold sizeAt; rw [Int.toNat_natCast, List.getD_eq_getElem?_getD, List.getElem?_eq_getElem h]; rfl

theorem LikeI.skip {g s k : Nat} {l : List (Int × Int)} {w w0 wr : World} {lv : Value} (h : LikeI g l s w w0 k lv wr) (hks : k ≠ s) (q : Nat) : LikeI g l s w w0 (k + 1) lv (wr.drewN q) := by
  obtain ⟨zs, h1, h2, h3, h4, h5, h6, h7⟩ := h
  exact ⟨zs, by omega, (fun hs => h2 (by omega)), h3, own_draws h4 q, h5.drewN q, grown_draws h6 q, below_draws h7 q⟩
theorem LikeI.add {g s k : Nat} {l : List (Int × Int)} {w w0 wr w3 : World} {lv v' : Value} {zs : List Int} {t : TypeId} (hk : zs.length ≤ k) (h3 : ∀ z ∈ zs, ∃ r : Nat, z = (r : Int) ∧ r < l.length ∧ sizeAt l z = sizeAt l (s : Int)) (hkl : k < l.length) (he : sizeAt l (k : Int) = sizeAt l (s : Int)) (hg0 : g < w0.heap.size) (hw0 : w.heap.size ≤ w0.heap.size)
    (h4 : wr.ownsRow w0.heap.size 3 1 lv zs.length (cellsJ zs)) (h5 : Codes wr g) (h6 : w.grownBy wr (some g)) (h7 : Below w0.heap.size w0 wr) (q : Nat)
    (ho : w3.ownsRow w0.heap.size 3 1 v' (zs.length + 1) (cellsJ zs ++ [.int .i64 (k : Int)])) (hg : ((wr.drewN q).alloc (.cells #[.int .i64 (k : Int)] t)).grownBy w3 lv.ownBlock) : LikeI g l s w w0 (k + 1) v' w3 := by
  refine ⟨zs ++ [(k : Int)], by simp; omega, (fun _ => by simp), (fun z hz => ?_), by rw [cellsJ_append]; simpa [cellsJ] using ho, ((h5.drewN q).alloc _).kept hg (fun j hj => ?_), ((grown_draws h6 q).trans (World.grownBy_alloc _ _ _)).andThen hg (fun j hj => .inl ?_), ?_⟩
  · rcases List.mem_append.1 hz with h | h
    · exact h3 z h
    · simp at h; subst h; exact ⟨k, rfl, hkl, he⟩
  · have := (h4.lt j hj).1; omega
  · have := (h4.lt j hj).1; omega
  · exact below_append ((below_draws h7 q).alloc h7.size _) ((own_draws h4 q).alloc _) (Nat.le_refl _) hg (by have := h7.size; simp; omega)

set_option maxRecDepth 100000 in
set_option maxHeartbeats 4000000 in
theorem like_any (g : Nat) (P : Int) (A1 : Option Addr) (n1 c1 : Nat) (A2 : Option Addr) (n2 c2 : Nat) (l : List (Int × Int)) (s B : Nat) (w : World) (h : Hid (Codes w g)) (hl : Hid (l.length = n1)) (hn1 : n1 ≤ 1000) (hs : s < n1) (hsee : Hid (Sees w B A1 (pcells l))) (hB : B ≤ w.heap.size) :
    Calls Tryz.prog 114 #[.pointer (some ⟨g, 0, none⟩), fv P A1 n1 c1 A2 n2 c2, .int .i64 (s : Int)] w (LikePost g l s w) := by
  obtain ⟨i0, hi, hz0, hz1, hz2⟩ := info_parts Tryz.info3
  have hgl := h.out.lt
  obtain ⟨W, hW⟩ : ∃ W, w.alloc (.cells #[.int .i64 P, .slice A1 n1 c1, .slice A2 n2 c2] 68) = W := ⟨_, rfl⟩
  have HW := hide hW
  have hr : Row W w.heap.size 68 [.int .i64 P, .slice A1 n1 c1, .slice A2 n2 c2] := hW ▸ Row.new w _ [.int .i64 P, .slice A1 n1 c1, .slice A2 n2 c2]
  have HR := hide hr
  have hbW : Below w.heap.size w W := hW ▸ below1 w _
  have hsz : w.heap.size + 1 = W.heap.size := by rw [← hW]; simp
  have HB := hide hbW
  have HS := hide hsz
  have HI : Hid (LikeI g l s w W 0 (.slice none 0 0) W) := hide ⟨[], by simp, (fun h => by omega), (fun z hz => by cases hz), World.ownsRow_nil _ _ _ _, h.out.below hbW, grown_below hbW _, Below.refl _ _⟩
  clear hW hr hbW hsz
  go_enter Tryz.func114, Tryz.ntmps114
  go_wp2_with fail
  rw [HW.out]
  go_loopw [7, 8] (fun lv kv wr => ∃ k : Nat, k ≤ n1 ∧ kv = .int .i64 (k : Int) ∧ Hid (LikeI g l s w W k lv wr)) (fun _ kv _ => n1 - (intOf kv).toNat)
  case atStart => exact ⟨0, by omega, rfl, HI⟩
  case round =>
    obtain ⟨k, hk, rfl, hI⟩ := hrel
    obtain ⟨zs, hzk, hzs, hza, hown, hC, hG, hb⟩ := hI.out
    have hrr := HR.out.call hb
    have x1 := hrr.cell (k := 1) rfl
    have HC := hide hC
    have HG := hide hG
    have HBR := hide hb
    have HO := hide hown
    have HZA := hide hza
    have HZS := hide hzs
    have HRL := hide hrr.lt
    clear hrr hI hC hG hb hown hza hzs
    by_cases hlt : k < n1
    · have hkl : k < l.length := by have := hl.out; omega
      have hsl : s < l.length := by have := hl.out; omega
      have hsee2 := hsee.out.below (((HB.out.trans (HBR.out.mono HB.out.size))).mono hB)
      obtain ⟨b, off, rfl, hbB, c0, -⟩ := pair_at hsee2 hkl
      obtain ⟨b', off', he, _, d0, -⟩ := pair_at hsee2 hsl
      injection he with he
      injection he with e1 e2
      subst e1 e2
      have E1 := hide (sizeAt_nat l k hkl)
      have E2 := hide (sizeAt_nat l s hsl)
      obtain ⟨s1, hs1⟩ : ∃ x, l[k].1 = x := ⟨_, rfl⟩
      obtain ⟨s2, hs2⟩ : ∃ x, l[s].1 = x := ⟨_, rfl⟩
      rw [hs1] at c0 E1
      rw [hs2] at d0 E2
      have hkz : (0 : Int) ≤ (k : Int) := by omega
      have hkz' : (k : Int) < (n1 : Int) := by omega
      have hsz0 : (0 : Int) ≤ (s : Int) := by omega
      have hsz' : (s : Int) < (n1 : Int) := by omega
      clear hs1 hs2 hsee2
      by_cases hss : s1 = s2
      · subst hss
        go_wp2_with fail
        go_quiet (fail)
        go_wp2_with (at_builtin; refine wpList_append_own _ rfl (.tmp 29) (.tmp 31) 34 rfl W.heap.size 3 i0 (.int .i64 0) 1 8 Tryz.underlying34 hi hz0 hz1 hz2 rfl (by decide) _ zs.length (cellsJ zs) rfl ((own_draws HO.out _).alloc _) ⟨_, 0, none⟩ 1 1 [.int .i64 (k : Int)] rfl rfl (one_new _ _ _) (fun u hu => by simp at hu; subst hu; rfl) (by unfold maxLen; omega) (by omega) (by simp; have := HBR.out.size; omega) ?_)
        intro v' w3 ho3 hg3 _
        have HN := hide (LikeI.add (s := s) hzk HZA.out hkl (E1.out.trans E2.out.symm) (by have := HS.out; omega) (by have := HS.out; omega) HO.out HC.out HG.out HBR.out _ ho3 hg3)
        clear ho3 hg3
        go_wp2_with fail
        go_roundw
        case rel => exact ⟨k + 1, by omega, by go_num, HN⟩
        case measure => simp [intOf]; omega
      · have hne : (s1 == s2) = false := by simpa using hss
        have hks : Hid (k ≠ s) := hide (by rintro rfl; exact hss (E1.out.symm.trans E2.out))
        have HIK := hide (fun q => LikeI.skip (g := g) (l := l) (w := w) (w0 := W) ⟨zs, hzk, HZS.out, HZA.out, HO.out, HC.out, HG.out, HBR.out⟩ hks.out q)
        go_wp2_with fail
        go_quiet (fail)
        go_wp2_with fail
        go_roundw
        case rel => exact ⟨k + 1, by omega, by go_num, hide (HIK.out _)⟩
        case measure => simp [intOf]; omega
    · obtain rfl : k = n1 := by omega
      have hzp : 1 ≤ zs.length := by
        rcases Nat.lt_or_ge 0 zs.length with h1 | h1
        · exact h1
        · exact absurd (List.eq_nil_of_length_eq_zero (by omega)) (HZS.out hs)
      obtain ⟨A, c, rfl, hA, hnc, hfar, hse⟩ := own_seen HO.out
      have HSE := hide hse
      have HF := hide hfar
      clear hse hfar hA
      go_wp2_with fail
      refine (next_any g (zs.length : Int) _ HC (by omega) (by omega)).mono ?_
      rintro e w2 ⟨v, rfl, v0, v1, hC2, hG2, hz2⟩
      obtain ⟨j, rfl⟩ := Int.eq_ofNat_of_zero_le v0
      have hjl : j < zs.length := by omega
      have hkeep : Sees w2 wr.heap.size A (cellsJ zs) := HSE.out.keepF HF.out fun p h1 h2 => World.cell?_of_block (hG2.block p.block h2 (fun e => by injection e with e; have := HS.out; omega))
      obtain ⟨b, off, rfl, _, u0⟩ := inum_at hkeep hjl
      obtain ⟨r, hr, hrl, hrs⟩ := HZA.out _ (List.getElem_mem hjl)
      rw [hr] at u0
      have HRS := hide (hr ▸ hrs)
      have HRL2 := hide hrl
      have HC2 := hide hC2
      have HG2 := hide (HG.out.trans hG2)
      clear hC2 hG2 hz2 hkeep hr hrs hrl
      go_wp2_with fail
      go_ret
      exact ⟨r, rfl, HRL2.out, HRS.out, HC2.out, HG2.out⟩
end Go.Proofs.YtlcmcmocjbeocaaGreatDoor
end

section
/-
  The mathematics of drawn instructions: which are right whatever code stands around them. Nothing here names the program.
-/
namespace Go.Proofs.YtlcmcmocjbeocaaGreatDoor
open Go.RowKit

/-- The error of an instruction speaks of parameters, slots and the number of instructions alone. -/
theorem insE_congr {N : Nat} {f f' : Fn} {x : Ins} (hp : f.params = f'.params) (hs : f.slots = f'.slots) (hl : f.code.length = f'.code.length) : insE N f x = insE N f' x := by
  have h : ∀ k n, opndE N f k n = opndE N f' k n := fun k n => by unfold opndE cntV; rw [hp, hs, hl]
  unfold insE opndsE moveBad
  rw [h, h, h, hs]
theorem ins_ok {N : Nat} {f : Fn} {op a b c m k1 k2 k3 : Int} {im : Bool} (hs : shpOf op = (k1, k2, k3, im)) (ho : 0 ≤ op ∧ op < 25) (ha : withB a (cntV N f k1) = true) (hb : withB b (cntV N f k2) = true) (hc : withB c (cntV N f k3) = true) (hm : im = true ∨ m = 0) (h17 : op ≠ 17 ∨ sizeAt f.slots a = sizeAt f.slots b) : insE N f ⟨op, a, b, c, m⟩ = 0 := by
  rw [insE_zero]
  simp only [hs]
  refine ⟨ho, opndE_zero.2 ha, opndE_zero.2 hb, opndE_zero.2 hc, hm, ?_⟩
  unfold moveBad
  rcases h17 with h | h
  · simp only [decide_eq_false h, Bool.false_and]
  · simp only [h, decide_true, Bool.not_true, Bool.and_false]

/-- An Imm field of 64 bits. -/
def immI (x : Ins) : Prop := 0 ≤ x.imm ∧ x.imm ≤ 18446744073709551615
/-- An instruction of function i that is right whatever code stands around it: no jump, no end; it calls later functions alone. -/
def goodI (N i : Nat) (P : Int) (l : List (Int × Int)) (x : Ins) : Prop := (x.op ≠ 20 ∧ x.op ≠ 21 ∧ x.op ≠ 23 ∧ x.op ≠ 24 ∧ immI x) ∧ (∀ c, insE N ⟨P, l, c⟩ x = 0) ∧ (x.op = 22 → (i : Int) < x.a)
/-- Such a one, or a jump whose target is still to come. -/
def preI (N i : Nat) (P : Int) (l : List (Int × Int)) (x : Ins) : Prop := goodI N i P l x ∨ (∃ a, 0 ≤ a ∧ a < 8 ∧ x = ⟨21, a, -1, 0, 0⟩) ∨ x = ⟨20, -1, 0, 0, 0⟩

section
variable {N i : Nat} {P : Int} {l : List (Int × Int)}
theorem mk_good {op a b c m : Int} (h : op ≠ 20 ∧ op ≠ 21 ∧ op ≠ 23 ∧ op ≠ 24) (hi : ∀ d, insE N ⟨P, l, d⟩ ⟨op, a, b, c, m⟩ = 0) (hc : op = 22 → (i : Int) < a) (hm : 0 ≤ m ∧ m ≤ 18446744073709551615 := by decide) : goodI N i P l ⟨op, a, b, c, m⟩ := ⟨⟨h.1, h.2.1, h.2.2.1, h.2.2.2, hm⟩, hi, hc⟩
theorem w1 : withB 0 1 = true := by decide
theorem good_store {s r : Int} (s0 : 0 ≤ s) (s1 : s < l.length) (r0 : 0 ≤ r) (r1 : r < 8) : goodI N i P l ⟨16, s, r, 0, 0⟩ :=
  mk_good (by decide) (fun c => ins_ok (k1 := 2) (k2 := 1) (k3 := 0) (im := false) rfl ⟨by decide, by decide⟩ (withB_true.2 ⟨s0, s1⟩) (withB_true.2 ⟨r0, r1⟩) w1 (.inr rfl) (.inl (by decide))) (fun h => absurd h (by decide))
theorem good_load {s r : Int} (s0 : 0 ≤ s) (s1 : s < l.length) (r0 : 0 ≤ r) (r1 : r < 8) : goodI N i P l ⟨15, r, s, 0, 0⟩ :=
  mk_good (by decide) (fun c => ins_ok (k1 := 1) (k2 := 2) (k3 := 0) (im := false) rfl ⟨by decide, by decide⟩ (withB_true.2 ⟨r0, r1⟩) (withB_true.2 ⟨s0, s1⟩) w1 (.inr rfl) (.inl (by decide))) (fun h => absurd h (by decide))
theorem good_move {s r : Int} (s0 : 0 ≤ s) (s1 : s < l.length) (r0 : 0 ≤ r) (r1 : r < l.length) (he : sizeAt l r = sizeAt l s) : goodI N i P l ⟨17, r, s, 0, 0⟩ :=
  mk_good (by decide) (fun c => ins_ok (k1 := 2) (k2 := 2) (k3 := 0) (im := false) rfl ⟨by decide, by decide⟩ (withB_true.2 ⟨r0, r1⟩) (withB_true.2 ⟨s0, s1⟩) w1 (.inr rfl) (.inr he)) (fun h => absurd h (by decide))
theorem good_const {r m : Int} (r0 : 0 ≤ r) (r1 : r < 8) (hm : 0 ≤ m ∧ m ≤ 18446744073709551615) : goodI N i P l ⟨0, r, 0, 0, m⟩ :=
  mk_good (by decide) (fun c => ins_ok (k1 := 1) (k2 := 0) (k3 := 0) (im := true) rfl ⟨by decide, by decide⟩ (withB_true.2 ⟨r0, r1⟩) w1 w1 (.inl rfl) (.inl (by decide))) (fun h => absurd h (by decide)) hm
theorem good_three {v r x y : Int} (v0 : 0 ≤ v) (v1 : v < 10) (r0 : 0 ≤ r) (r1 : r < 8) (x0 : 0 ≤ x) (x1 : x < 8) (y0 : 0 ≤ y) (y1 : y < 8) : goodI N i P l ⟨2 + v, r, x, y, 0⟩ := by
  have hs : shpOf (2 + v) = (1, 1, 1, false) := by
    rcases (show v = 0 ∨ v = 1 ∨ v = 2 ∨ v = 3 ∨ v = 4 ∨ v = 5 ∨ v = 6 ∨ v = 7 ∨ v = 8 ∨ v = 9 by omega) with rfl | rfl | rfl | rfl | rfl | rfl | rfl | rfl | rfl | rfl <;> rfl
  exact ⟨⟨by simp only; omega, by simp only; omega, by simp only; omega, by simp only; omega, (show (0 : Int) ≤ 0 ∧ (0 : Int) ≤ 18446744073709551615 by decide)⟩, fun c => ins_ok hs ⟨by omega, by omega⟩ (withB_true.2 ⟨r0, r1⟩) (withB_true.2 ⟨x0, x1⟩) (withB_true.2 ⟨y0, y1⟩) (.inr rfl) (.inl (by omega)), fun h => by simp only at h; omega⟩
theorem good_out {r : Int} (r0 : 0 ≤ r) (r1 : r < 8) : goodI N i P l ⟨14, r, 0, 0, 0⟩ :=
  mk_good (by decide) (fun c => ins_ok (k1 := 1) (k2 := 0) (k3 := 0) (im := false) rfl ⟨by decide, by decide⟩ (withB_true.2 ⟨r0, r1⟩) w1 w1 (.inr rfl) (.inl (by decide))) (fun h => absurd h (by decide))
theorem good_in {r : Int} (r0 : 0 ≤ r) (r1 : r < 8) : goodI N i P l ⟨13, r, 0, 0, 0⟩ :=
  mk_good (by decide) (fun c => ins_ok (k1 := 1) (k2 := 0) (k3 := 0) (im := false) rfl ⟨by decide, by decide⟩ (withB_true.2 ⟨r0, r1⟩) w1 w1 (.inr rfl) (.inl (by decide))) (fun h => absurd h (by decide))
theorem good_high {r : Int} (r0 : 0 ≤ r) (r1 : r < 8) : goodI N i P l ⟨12, r, 0, 0, 0⟩ :=
  mk_good (by decide) (fun c => ins_ok (k1 := 1) (k2 := 1) (k3 := 0) (im := false) rfl ⟨by decide, by decide⟩ (withB_true.2 ⟨r0, r1⟩) (show withB 0 8 = true by decide) w1 (.inr rfl) (.inl (by decide))) (fun h => absurd h (by decide))
theorem good_copy {r : Int} (r0 : 0 ≤ r) (r1 : r < 8) : goodI N i P l ⟨1, r, 0, 0, 0⟩ :=
  mk_good (by decide) (fun c => ins_ok (k1 := 1) (k2 := 1) (k3 := 0) (im := false) rfl ⟨by decide, by decide⟩ (withB_true.2 ⟨r0, r1⟩) (show withB 0 8 = true by decide) w1 (.inr rfl) (.inl (by decide))) (fun h => absurd h (by decide))
theorem good_param {r b : Int} (r0 : 0 ≤ r) (r1 : r < 8) (b0 : 0 ≤ b) (b1 : b < P) : goodI N i P l ⟨19, r, b, 0, 0⟩ :=
  mk_good (by decide) (fun c => ins_ok (k1 := 1) (k2 := 5) (k3 := 0) (im := false) rfl ⟨by decide, by decide⟩ (withB_true.2 ⟨r0, r1⟩) (withB_true.2 ⟨b0, b1⟩) w1 (.inr rfl) (.inl (by decide))) (fun h => absurd h (by decide))
theorem good_arg {a b : Int} (a0 : 0 ≤ a) (a1 : a < 8) (b0 : 0 ≤ b) (b1 : b < 8) : goodI N i P l ⟨18, a, b, 0, 0⟩ :=
  mk_good (by decide) (fun c => ins_ok (k1 := 4) (k2 := 1) (k3 := 0) (im := false) rfl ⟨by decide, by decide⟩ (withB_true.2 ⟨a0, a1⟩) (withB_true.2 ⟨b0, b1⟩) w1 (.inr rfl) (.inl (by decide))) (fun h => absurd h (by decide))
theorem good_call {j : Int} (j0 : (i : Int) < j) (j1 : j < N) : goodI N i P l ⟨22, j, 0, 0, 0⟩ :=
  mk_good (by decide) (fun c => ins_ok (k1 := 3) (k2 := 0) (k3 := 0) (im := false) rfl ⟨by decide, by decide⟩ (withB_true.2 ⟨by omega, j1⟩) w1 w1 (.inr rfl) (.inl (by decide))) (fun _ => j0)
theorem jump_ok {f : Fn} {t : Int} (t0 : 0 ≤ t) (t1 : t < f.code.length) : insE N f ⟨20, t, 0, 0, 0⟩ = 0 :=
  ins_ok (k1 := 6) (k2 := 0) (k3 := 0) (im := false) rfl ⟨by decide, by decide⟩ (withB_true.2 ⟨t0, t1⟩) w1 w1 (.inr rfl) (.inl (by decide))
theorem branch_ok {f : Fn} {a t : Int} (a0 : 0 ≤ a) (a1 : a < 8) (t0 : 0 ≤ t) (t1 : t < f.code.length) : insE N f ⟨21, a, t, 0, 0⟩ = 0 :=
  ins_ok (k1 := 1) (k2 := 6) (k3 := 0) (im := false) rfl ⟨by decide, by decide⟩ (withB_true.2 ⟨a0, a1⟩) (withB_true.2 ⟨t0, t1⟩) w1 (.inr rfl) (.inl (by decide))
theorem ret_ok {f : Fn} : insE N f ⟨23, 0, 0, 0, 0⟩ = 0 := ins_ok (k1 := 0) (k2 := 0) (k3 := 0) (im := false) rfl ⟨by decide, by decide⟩ w1 w1 w1 (.inr rfl) (.inl (by decide))
theorem trap_ok {f : Fn} {m : Int} : insE N f ⟨24, 0, 0, 0, m⟩ = 0 := ins_ok (k1 := 0) (k2 := 0) (k3 := 0) (im := true) rfl ⟨by decide, by decide⟩ w1 w1 w1 (.inl rfl) (.inl (by decide))
end
end Go.Proofs.YtlcmcmocjbeocaaGreatDoor
end
