import Derived.Test.YtafegghdhdgioabGreatMMlfr
import Derived.Test.YtafegghdhdgioabGreatMMshp
set_option linter.unusedVariables false
set_option linter.unusedSimpArgs false
section
/-
  The contract of the reference's Target (chapter 26): a program lowered with its plain layouts. Conditions: what holds of a right program of at most 6 slots a function; the alignment is one.
-/
namespace Go.Proofs.YtafegghdhdgioabGreat
open Go.RowKit

structure LowPg2 (F : Pg) : Prop where
  pg : LowPg F
  low : ∀ f ∈ F, ∀ x ∈ f.code, LowOk f.slots.length x
  short : ∀ f ∈ F, f.code.length ≤ 1024
/-- The head h is the frame g, its code a row of the call's own. -/
structure FrRow (w : World) (base : Nat) (h : Fd) (g : Fm) : Prop where
  p : h.p = g.params
  s : h.s = g.size
  n : h.n = g.code.length
  row : w.ownsRow base 52 5 (.slice h.a h.n h.c) h.n (icells g.code)
def FrAll (w : World) (base : Nat) (hh : List Fd) (G : Tg) : Prop := ∀ (j : Nat) (h : Fd) (g : Fm), hh[j]? = some h → G[j]? = some g → FrRow w base h g
theorem FrRow.kept {w w' : World} {base : Nat} {h : Fd} {g : Fm} {row : Option Nat} (H : FrRow w base h g) (hg : w.grownBy w' row) (hne : (Value.slice h.a h.n h.c).ownBlock = none ∨ (Value.slice h.a h.n h.c).ownBlock ≠ row) : FrRow w' base h g := ⟨H.p, H.s, H.n, H.row.kept hg hne⟩
theorem FrRow.call {w w' : World} {base : Nat} {h : Fd} {g : Fm} (H : FrRow w base h g) (hb : Below w.heap.size w w') : FrRow w' base h g := ⟨H.p, H.s, H.n, own_call H.row hb⟩
theorem FrAll.call {w w' : World} {base : Nat} {hh : List Fd} {G : Tg} (H : FrAll w base hh G) (hb : Below w.heap.size w w') : FrAll w' base hh G := fun j h g e1 e2 => (H j h g e1 e2).call hb
theorem FrAll.kept {w w' : World} {base : Nat} {hh : List Fd} {G : Tg} (H : FrAll w base hh G) {b' : Nat} {t' : TypeId} {size' : Nat} {v' : Value} {n' : Nat} {xs' : List Value} (h' : w.ownsRow b' t' size' v' n' xs') (ht : 52 ≠ t') (hg : w.grownBy w' v'.ownBlock) : FrAll w' base hh G := fun j h g e1 e2 => (H j h g e1 e2).kept hg (own_apart (H j h g e1 e2).row h' ht)
theorem FrAll.lower {w : World} {base base' : Nat} {hh : List Fd} {G : Tg} (H : FrAll w base hh G) (hb : base' ≤ base) : FrAll w base' hh G := fun j h g e1 e2 => ⟨(H j h g e1 e2).p, (H j h g e1 e2).s, (H j h g e1 e2).n, own_lower (H j h g e1 e2).row hb⟩
/-- An owned row of such heads is a target. -/
theorem FrAll.tg {w : World} {base n c : Nat} {A : Option Addr} {hh : List Fd} {G : Tg} (H : FrAll w base hh G) (ho : w.ownsRow base 55 3 (.slice A n c) n (fdcells hh)) (hl : hh.length = n) (hg : G.length = n) (hn : n ≤ 1000) (hs : ∀ g ∈ G, g.code.length ≤ 100000) : TgAt w base w.heap.size A n c hh G := by
  obtain ⟨A', c', e, hA, hc, hf, hsee⟩ := own_seen ho
  injection e with e1 _ e2
  subst e1 e2
  refine ⟨hg, ⟨hA, hc, by omega⟩, hf, hsee, by omega, fun k h g e1 e2 => ?_⟩
  have r := H k h g e1 e2
  obtain ⟨A2, c2, e, hA2, hc2, hf2, hsee2⟩ := own_seen r.row
  injection e with e3 _ e4
  have hgs := hs g (List.mem_of_getElem? e2)
  rw [← e3] at hA2 hf2 hsee2
  rw [← e4] at hA2 hc2
  exact ⟨r.p, r.s, r.n.symm, ⟨hA2, hc2, by have := r.n; omega⟩, hf2, hsee2⟩
theorem Tryz.info55 : (Tryz.prog.info? 55).map (fun i => (i.zero, i.size, i.bytes)) = some (some (.agg #[.int .i64 0, .int .i64 0, .slice none 0 0]), 3, 40) := by kernel_rfl
def LtgPost (F : Pg) (al : Int) (n : Nat) (w : World) (e : Ending) (w' : World) : Prop :=
  ∃ (A : Option Addr) (c : Nat) (hh : List Fd), e = .returned (.tuple #[tv al A n c, .int .i64 0]) ∧ TgAt w' w.heap.size w'.heap.size A n c hh (F.map (lowF F al)) ∧ FrAll w' w.heap.size hh (F.map (lowF F al)) ∧ Below w.heap.size w w'
theorem low_size {F : Pg} {al : Int} {f : Fn} (h : ArgOk F f.code) (hs : ∀ u ∈ f.slots, slotB u.1 u.2 = true) (h6 : f.slots.length ≤ 6) (ha : powB al = true) : 0 ≤ (lowF F al f).size ∧ (lowF F al f).size ≤ 268435456 := by
  have hab := argN_b h f.code.length
  rw [List.take_of_length_le (Nat.le_refl _)] at hab
  have hbd := basF_b (a := argN F f.code * 16) (by omega) hs f.slots.length (Nat.le_refl _)
  rw [List.take_of_length_le (Nat.le_refl _)] at hbd
  have hap := powB_b ha
  have hu := upM_b (basF (argN F f.code * 16) f.slots).2 (show 0 < al by omega)
  show 0 ≤ upM (basF (argN F f.code * 16) f.slots).2 al ∧ upM (basF (argN F f.code * 16) f.slots).2 al ≤ 268435456
  omega
theorem ly_see {w : World} {base : Nat} {y : Fd} {F : Pg} {f : Fn} {al : Int} (h : LyRow w base y F f al) : Sees w w.heap.size y.a (cellsE (basF (argN F f.code * 16) f.slots).1) := by
  obtain ⟨A, c, e, _, _, _, hs⟩ := own_seen h.row
  injection e with e1 _ _
  rwa [← e1] at hs

set_option maxRecDepth 100000 in
set_option maxHeartbeats 4000000 in
theorem ltgt_any (A : Option Addr) (n c : Nat) (hs : List Hd) (F : Pg) (lo B : Nat) (al : Int) (A2 : Option Addr) (c2 : Nat) (ys : List Fd) (base : Nat) (w : World) (H : Hid (PgAt w lo B A n c hs F)) (hB : B ≤ w.heap.size) (hF : Hid (LowPg2 F)) (hal : Hid (powB al = true))
    (hly : Hid (w.ownsRow base 103 3 (.slice A2 n c2) n (fdcells ys))) (hyl : Hid (ys.length = n)) (hall : Hid (LyAll w base ys F al)) :
    Calls Tryz.prog 27 #[gv A n c, .int .i64 al, .slice A2 n c2] w (LtgPost F al n w) := by
  obtain ⟨i0, hi, hz0, hz1, hz2⟩ := info_parts Tryz.info55
  have HL := hide H.out.len
  have h80 : n ≤ 80 := by have := hF.out.pg.few; have := HL.out; omega
  obtain ⟨W1, hW1, hb1, hs1, r0, r1⟩ := boxes2q w [.slice A n c] [.int .i64 0, .slice none 0 0] 80 26
  have HW1 := hide hW1
  have HB1 := hide hb1
  have R0 := hide r0
  have R1 := hide r1
  have t0 := r0.cell (k := 0) rfl
  have hnn : ((n : Int) != (n : Int)) = false := by simp
  clear hW1 hb1 hs1 r0 r1
  go_enter Tryz.func27, Tryz.ntmps27
  go_upto_region 1 with (fail)
  rw [HW1.out]
  clear HW1
  go_wp2_with fail
  clear t0
  go_loopw [8, 9] (fun v s wr => ∃ (k : Nat) (A' : Option Addr) (c' : Nat) (hh : List Fd), k ≤ n ∧ s = .int .i64 k ∧ v = .slice A' k c' ∧ Hid (hh.length = k) ∧ Hid (wr.ownsRow W1.heap.size 55 3 (.slice A' k c') k (fdcells hh)) ∧ Hid (FrAll wr W1.heap.size hh (F.map (lowF F al))) ∧ Hid (Below W1.heap.size W1 wr)) (fun _ s _ => n - (intOf s).toNat)
  case atStart => exact ⟨0, none, 0, [], by omega, rfl, rfl, hide rfl, hide (World.ownsRow_nil _ _ _ _), hide (fun j y f e1 e2 => by simp at e1), hide (Below.refl _ _)⟩
  case round =>
    obtain ⟨k, A', c', hh, hk, rfl, rfl, hhl, hown, hfr, hbr⟩ := hrel
    have HBW := hide (HB1.out.trans (hbr.out.mono HB1.out.size))
    by_cases hlt : k < n
    · have hkl : k < F.length := by have := HL.out; omega
      have hky : k < ys.length := by have := hyl.out; omega
      have hx := List.getElem?_eq_getElem hkl
      have hm := List.getElem_mem hkl
      have hyk := List.getElem?_eq_getElem hky
      have HALL := hide (hall.out.call (HBW.out))
      have hlr := HALL.out k _ _ hyk hx
      have hss := low_size (hF.out.pg.arg _ hm) (hF.out.pg.slot _ hm) (hF.out.pg.six _ hm) hal.out
      obtain ⟨A9, c9, e9, -, -, -, hsee9⟩ := own_seen (own_call hly.out HBW.out)
      injection e9 with e9a _ e9b
      subst e9a e9b
      obtain ⟨bb, oo, rfl, hbb, y0, y1, y2⟩ := fd_at hsee9 hky
      obtain ⟨f, hf⟩ : ∃ f, F[k] = f := ⟨_, rfl⟩
      obtain ⟨y, hy⟩ : ∃ y, ys[k] = y := ⟨_, rfl⟩
      rw [hf] at hx hlr hss hm
      rw [hy] at hlr y0 y1 y2
      have HX := hide hx
      have HFM := hide (show (F.map (lowF F al))[k]? = some (lowF F al f) by rw [List.getElem?_map, hx]; rfl)
      have hys : y.s = (lowF F al f).size := hlr.s
      have HLS := hide (ly_see hlr)
      have HLY := hide (show y.p = argN F f.code * 16 ∧ y.s = upM (basF (argN F f.code * 16) f.slots).2 al ∧ y.n = f.slots.length from ⟨hlr.p, hlr.s, hlr.n⟩)
      have HBL := hide (show (basF (argN F f.code * 16) f.slots).1.length = f.slots.length by have := basF_len (argN F f.code * 16) f.slots f.slots.length (Nat.le_refl _); rwa [List.take_of_length_le (Nat.le_refl _)] at this)
      have cs : ∀ p : After wr, Calls Tryz.prog 39 #[gv A n c, .int .i64 (k : Int), .int .i64 al, mv y.p y.s y.a y.n y.c] p.w fun e w' => e = .returned (.int .i64 0) ∧ Below p.w.heap.size p.w w' := fun p =>
        rshape25_any A n c hs F lo B k f al y wr.heap.size p.w (hide (H.out.below ((HBW.out.trans (p.b.mono HBW.out.size)).mono hB))) (Nat.le_trans hB (Nat.le_trans HBW.out.size p.b.size)) (hide hF.out.pg) HX hal HLY (hide (HLS.out.below p.b)) p.b.size
      have cf : ∀ W, Below wr.heap.size wr W → Calls Tryz.prog 40 #[gv A n c, .int .i64 (k : Int), mv y.p y.s y.a y.n y.c] W (LfrPost F al f W) := fun W hW =>
        lfrm_any A n c hs F lo B k f al y wr.heap.size W (hide (H.out.below ((HBW.out.trans (hW.mono HBW.out.size)).mono hB))) (Nat.le_trans hB (Nat.le_trans HBW.out.size hW.size)) HX (by rw [hys]; exact hss) (hide (hF.out.low _ hm)) (hF.out.short _ hm) (hide ⟨hys, hlr.n⟩) HBL (hide (HLS.out.below hW)) hW.size
      have CS := hide cs
      have CF := hide cf
      have t0 := (R0.out.call hbr.out).cell (k := 0) rfl
      have t0' := after_cell t0
      have y0' := after_cell y0
      have y1' := after_cell y1
      have y2' := after_cell y2
      have hkz : (0 : Int) ≤ (k : Int) := by omega
      have hkz' : (k : Int) < (n : Int) := by omega
      obtain ⟨yp, yss, yA, yn, yc⟩ := y
      simp only at y0' y1' y2'
      clear hf hy hx hm hyk hlr hss hys hsee9 cs cf y0 y1 y2 t0 hbb HALL
      go_upto_region 7 with (fail)
      refine wp_region_after (by kernel_rfl) (by kernel_rfl) ?_
      repeat (go_big_quiet_step ((go_at_call 39; with_reducible exact after_of (CS.out _))))
      refine wpQuiet_nil ?_
      intro _ hw'
      obtain ⟨p1, hw''⟩ := hw'
      subst hw''
      have hown5 := hide (own_call hown.out p1.b)
      have hfr5 := hide (hfr.out.call p1.b)
      have hbr5 := hide (below_call hbr.out p1.b)
      have CF5 := hide (fun W (hW : Below p1.w.heap.size p1.w W) => CF.out W (below_call p1.b hW))
      have t0 := t0' p1
      have y0 := y0' p1
      have y1 := y1' p1
      have y2 := y2' p1
      obtain ⟨W5, hW5⟩ : ∃ V, p1.w = V := ⟨_, rfl⟩
      rw [hW5] at hown5 hfr5 hbr5 CF5 t0 y0 y1 y2 ⊢
      clear hW5 t0' y0' y1' y2' CS CF
      go_upto_region 9 with (fail)
      have hFN := hide (show (lowF F al f).code.length = f.code.length by unfold lowF; simp)
      go_region_law
        (first
          | (go_simp; go_at_call 40; refine (CF5.out _ (Below.refl _ _).drew).mono ?_; rintro e w3 ⟨A3, c3, rfl, hcr, hb3⟩; have hb3' : Below W5.heap.size W5 w3 := (Below.refl W5.heap.size W5).drew.trans hb3; have ho3 := own_call hown5.out hb3'; have hb4 := (below_call hbr5.out hb3').alloc (below_call hbr5.out hb3').size (.cells #[.int .i64 (lowF F al f).params, .int .i64 (lowF F al f).size, .slice A3 f.code.length c3] 55); have hcel := fun (j : Nat) (u : Value) (hu : ([.int .i64 (lowF F al f).params, .int .i64 (lowF F al f).size, .slice A3 f.code.length c3] : List Value)[j]? = some u) => (show (w3.alloc (.cells #[.int .i64 (lowF F al f).params, .int .i64 (lowF F al f).size, .slice A3 f.code.length c3] 55)).cell? ((⟨w3.heap.size, 0, none⟩ : Addr).add j) = some u by rw [WideShapes.add_plain, Nat.zero_add]; exact (Row.new w3 55 [.int .i64 (lowF F al f).params, .int .i64 (lowF F al f).size, .slice A3 f.code.length c3]).cell hu); have hone : ∀ u ∈ ([.int .i64 (lowF F al f).params, .int .i64 (lowF F al f).size, .slice A3 f.code.length c3] : List Value), u.oneCell' = true := fdcells_oneCell [⟨(lowF F al f).params, (lowF F al f).size, A3, f.code.length, c3⟩]; have hbase : W1.heap.size ≤ (w3.alloc (.cells #[.int .i64 (lowF F al f).params, .int .i64 (lowF F al f).size, .slice A3 f.code.length c3] 55)).heap.size := hb4.size)
          | (refine wp_append_own _ (.tmp 33) (.tmp 41) 24 rfl W1.heap.size 55 i0 (.agg #[.int .i64 0, .int .i64 0, .slice none 0 0]) 3 40 Tryz.underlying24 hi hz0 hz1 hz2 rfl (by decide) (.slice A' k c') k (fdcells hh) rfl (ho3.alloc _) ⟨w3.heap.size, 0, none⟩ 1 1 [.int .i64 (lowF F al f).params, .int .i64 (lowF F al f).size, .slice A3 f.code.length c3] rfl rfl hcel hone (by unfold maxLen; omega) (by omega) hbase ?_; intro v2 w7 ho2 hg2 _; obtain ⟨A7, c7, rfl, -, -, -, -⟩ := own_seen ho2))
      all_goals
        have HB7 := hide (hb4.grown hg2 hb4.size (fun q hq => ((ho3.alloc (.cells #[.int .i64 (lowF F al f).params, .int .i64 (lowF F al f).size, .slice A3 f.code.length c3] 55)).lt q hq).1))
        have ho5 := ho3.alloc (.cells #[.int .i64 (lowF F al f).params, .int .i64 (lowF F al f).size, .slice A3 f.code.length c3] 55)
        have hb45 := below1 w3 (.cells #[.int .i64 (lowF F al f).params, .int .i64 (lowF F al f).size, .slice A3 f.code.length c3] 55)
        have HR3 : FrRow w3 W1.heap.size ⟨(lowF F al f).params, (lowF F al f).size, A3, f.code.length, c3⟩ (lowF F al f) := ⟨rfl, rfl, hFN.out.symm, own_lower hcr (show W1.heap.size ≤ W5.heap.size from hbr5.out.size)⟩
        have HA7 := hide (((hfr5.out.call hb3').call hb45).kept ho5 (by decide) hg2)
        have HY7 := hide ((HR3.call hb45).kept hg2 (own_apart (HR3.call hb45).row ho5 (by decide)))
        have HO7 := hide (show w7.ownsRow W1.heap.size 55 3 (.slice A7 (k + 1) c7) (k + 1) (fdcells (hh ++ [⟨(lowF F al f).params, (lowF F al f).size, A3, f.code.length, c3⟩])) by rw [fdcells_append]; exact ho2)
        have HALL := hide (show FrAll w7 W1.heap.size (hh ++ [⟨(lowF F al f).params, (lowF F al f).size, A3, f.code.length, c3⟩]) (F.map (lowF F al)) from fun j h g e1 e2 => by
          rcases Nat.lt_or_ge j k with hj | hj
          · rw [List.getElem?_append_left (by have := hhl.out; omega)] at e1
            exact HA7.out j h g e1 e2
          · rw [List.getElem?_append_right (by have := hhl.out; omega), hhl.out] at e1
            rcases Nat.lt_or_ge (j - k) 1 with h1 | h1
            · obtain rfl : j = k := by omega
              simp at e1
              subst e1
              rw [HFM.out] at e2
              injection e2 with e2
              subst e2
              exact HY7.out
            · rw [List.getElem?_eq_none (by simpa using h1)] at e1; cases e1)
        clear ho2 hg2 ho3 ho5 hb3 hb3' hb4 hb45 hcel hone hbase hcr HR3
        go_wp2_with fail
        go_roundw
        case rel => exact ⟨k + 1, A7, c7, _, by omega, by go_num, rfl, hide (by rw [List.length_append, hhl.out]; rfl), HO7, HALL, HB7⟩
        case measure => simp [intOf]; omega
    · obtain rfl : k = n := by omega
      have RR5 := hide (R1.out.call hbr.out)
      have v0 := RR5.out.cell (k := 0) rfl
      have v1 := RR5.out.cell (k := 1) rfl
      have z0 := RR5.out.free 0
      have z1 := RR5.out.free 1
      have HTG := hide (hfr.out.tg hown.out hhl.out (by rw [List.length_map]; exact HL.out) (by omega) (fun g hg => by
        obtain ⟨f, hf, rfl⟩ := List.mem_map.1 hg
        have := hF.out.short f hf
        show (f.code.map _).length ≤ 100000
        rw [List.length_map]; omega))
      go_wp2_with fail
      obtain ⟨W9, hW9⟩ : ∃ V, (wr.setCell ⟨w.heap.size + 1, 0, none⟩ (.int .i64 al)).setCell ⟨w.heap.size + 1, 1, none⟩ (.slice A' k c') = V := ⟨_, rfl⟩
      have R9 : Row W9 (w.heap.size + 1) 26 [.int .i64 al, .slice A' k c'] := by rw [← hW9]; exact (RR5.out.set_ 0 _).set_ 1 _
      have B9 : Below w.heap.size w W9 := by rw [← hW9]; exact (HBW.out.setCell (p := ⟨w.heap.size + 1, 0, none⟩) (by simp) _).setCell (p := ⟨w.heap.size + 1, 1, none⟩) (by simp) _
      have hl1 := R1.out.lt
      have hs9 : W9.heap.size = wr.heap.size := by rw [← hW9]; simp [World.setCell]
      have T9 : TgAt W9 w.heap.size W9.heap.size A' k c' hh (F.map (lowF F al)) := by
        rw [hs9]
        refine (HTG.out.keep (w' := W9) fun p h1 h2 => ?_).more (Nat.le_refl _) HB1.out.size
        rw [← hW9]
        rw [World.cell?_setCell_other _ _ _ _ (fun e => by subst e; simp at h1; omega), World.cell?_setCell_other _ _ _ _ (fun e => by subst e; simp at h1; omega)]
      have F9 : FrAll W9 w.heap.size hh (F.map (lowF F al)) := fun j h g e1 e2 => by
        have r := hfr.out j h g e1 e2
        refine ⟨r.p, r.s, r.n, own_lower (?_ : W9.ownsRow W1.heap.size 52 5 _ _ _) HB1.out.size⟩
        rw [← hW9]
        exact ownsRow_setCell_below (ownsRow_setCell_below r.row (a := ⟨w.heap.size + 1, 0, none⟩) (by simp; omega) _) (a := ⟨w.heap.size + 1, 1, none⟩) (by simp; omega) _
      rw [hW9]
      have k0 := R9.cell (k := 0) rfl
      have k1 := R9.cell (k := 1) rfl
      refine bodyPost_ret (v := .tuple #[tv al A' k c', .int .i64 0]) (by simp [results, Tryz.results27, go_sem, k0, k1]) rfl ?_
      exact ⟨A', c', hh, rfl, T9, F9, B9⟩
end Go.Proofs.YtafegghdhdgioabGreat
end
