import Derived.Test.YtgcjckbndkddmaaDoorMGg
import Derived.RegionTactic
import Derived.Deep.RegionLaw
import Derived.Deep.DeepCutAuto
set_option linter.unusedVariables false
set_option linter.unusedSimpArgs false
section
/-
  The reference's parse: what it gives for any bytes. Conditions: those of the types.
-/
namespace Go.Proofs.YtgcjckbndkddmaaDoor
open Go.RowKit

theorem Tryd.info53q : (Tryd.prog.info? 53).map (fun i => (i.zero, i.size, i.bytes)) = some (some (.agg #[.int .i64 0, .slice none 0 0, .slice none 0 0]), 3, 56) := by kernel_rfl
theorem Tryd.info22q : (Tryd.prog.info? 22).map (fun i => (i.zero, i.size, i.bytes)) = some (some (.slice none 0 0), 1, 24) := by kernel_rfl
theorem one_at (W : World) (x : Value) (t : TypeId) {k : Nat} (hk : k = W.heap.size) : ∀ (j : Nat) (u : Value), [x][j]? = some u → (W.alloc (.cells #[x] t)).cell? ((⟨k, 0, none⟩ : Addr).add j) = some u := by subst hk; exact one_new W x t
theorem own_cell (r : Sl) : ∀ u ∈ [slv r], u.oneCell' = true := fun u hu => by simp at hu; subst hu; rfl

section
variable {w2 wr w4 wb w6 : World} {g gp r0 b off n c m i cA cA' : Nat} {zs : List Int} {S T : Rd Unit} {A A' : Option Addr} {hs : List Hd} {F : Pg} {lv : Value} {rs : List Sl} {D : List (List Int)}
theorem PaI.own7 {o : Obj} {u : Value} (H : PaI w2 g gp r0 b off n c zs m S A i cA hs F lv rs D wr) (hgp : g < gp) (hG : wr.grownBy w4 (some g)) (hwb : w4.alloc o = wb) (hG6 : wb.grownBy w6 none) : (w6.setCell ⟨gp, 0, none⟩ u).ownsRow (gp + 1) 22 1 lv i (rs.map slv) := by
  have o4 := H.own.kept hG (by
    cases e : lv.ownBlock with
    | none => exact .inl rfl
    | some k => exact .inr fun h => by have := (H.own.lt k e).1; injection h with h; omega)
  have ob := o4.alloc o
  rw [hwb] at ob
  have o6 := ob.kept hG6 (by
    cases e : lv.ownBlock with
    | none => exact .inl rfl
    | some k => exact .inr fun h => by cases h)
  exact o6.kept (grown_put w6 gp 0 u) (by
    cases e : lv.ownBlock with
    | none => exact .inl rfl
    | some k => exact .inr fun h => by have := (H.own.lt k e).1; injection h with h; omega)
theorem PaI.rowb {o : Obj} (H : PaI w2 g gp r0 b off n c zs m S A i cA hs F lv rs D wr) (hgp : g < gp) (hG : wr.grownBy w4 (some g)) (hwb : w4.alloc o = wb) : Row wb gp 28 [.slice A i cA] := by
  rw [← hwb]
  exact (H.row.grown hG (fun e => by injection e with e; omega)).alloc o
theorem PaI.seeb {o : Obj} (H : PaI w2 g gp r0 b off n c zs m S A i cA hs F lv rs D wr) (hgp : g < gp) (hG : wr.grownBy w4 (some g)) (hwb : w4.alloc o = wb) : Sees wb wb.heap.size A (hcells hs) := by
  have s4 := hG.size
  rw [← hwb]
  refine ((H.pg.see.keepF H.pg.far fun p h1 h2 => ?_).more (by simp; omega))
  rw [World.cell?_alloc_lt w4 o p (by omega)]
  exact World.cell?_of_block (hG.block p.block h2 (fun e => by injection e with e; omega))
/-- What parse gives where the reader has read all. -/
theorem pa_end {w w9 : World} {L : List (Fn × List Int)} {A' : Option Addr} {c' : Nat} (H : PaI w2 g gp r0 b off n c zs m S A L.length cA hs (L.map (·.1)) (.slice A' L.length c') rs (L.map (·.2)) w9) (hr0 : r0 = w.heap.size) (hg : r0 < g) (hgp : g < gp) (hbw : Below w.heap.size w w9) (hE : parseR zs = (0, L)) :
    PaPost zs w (.returned (.tuple #[gv A L.length cA, .slice A' L.length c', .int .i64 0])) (w9.setCell ⟨r0, 0, none⟩ (.slice A L.length cA)) := by
  have hk : ∀ p : Addr, gp + 1 ≤ p.block → (w9.setCell ⟨r0, 0, none⟩ (.slice A L.length cA)).cell? p = w9.cell? p := fun p h1 => World.cell?_setCell_other _ _ _ _ (fun e => by have := congrArg Addr.block e; simp at this; omega)
  have hz : (w9.setCell ⟨r0, 0, none⟩ (.slice A L.length cA)).heap.size = w9.heap.size := by simp [World.setCell]
  obtain ⟨Ax, cx, ex, hA, hmc, hfar, hsee⟩ := own_seen H.own
  injection ex with ex1 _ ex3
  subst ex1 ex3
  have hrl := H.rl
  have hcap := H.pg.cap.2.2
  refine ⟨A, L.length, cA, hs, A', L.length, c', rs, by rw [hE], ?_, ?_, ?_⟩
  · rw [show parseF zs = L.map (·.1) by unfold parseF; rw [hE], hz]
    exact (H.pg.keep fun p h1 _ => hk p h1).more (Nat.le_refl _) (by omega)
  · rw [show parseD zs = L.map (·.2) by unfold parseD; rw [hE], hz]
    refine ⟨by simp, hrl, ⟨hA, hmc, hcap⟩, hfar.more (by omega), hsee.keepF hfar fun p h1 _ => hk p h1, fun k r d e1 e2 => ?_⟩
    exact ((H.ds k r d e1 e2).keep fun p h1 _ => hk p h1).more (Nat.le_refl _) (by omega)
  · have hl := H.res.lt
    exact below_put hbw (by omega) (by omega) 0 _
end
theorem PaI.drewN {w2 wr : World} {g gp r0 b off n c m i cA : Nat} {zs : List Int} {S : Rd Unit} {A : Option Addr} {hs : List Hd} {F : Pg} {lv : Value} {rs : List Sl} {D : List (List Int)} (H : PaI w2 g gp r0 b off n c zs m S A i cA hs F lv rs D wr) (q : Nat) : PaI w2 g gp r0 b off n c zs m S A i cA hs F lv rs D (wr.drewN q) :=
  ⟨H.kp.drewN q, H.row.drewN q, H.res.drewN q, H.pg.drewN q, own_draws H.own q, H.dl, fun k r d e1 e2 => (H.ds k r d e1 e2).keep fun _ _ _ => rfl, H.o1, H.o2, H.o3⟩
theorem count_in {g b off n c en most : Nat} {zs : List Int} {S T : Rd Unit} {v : Nat} {w : World} (hz : Hid (Src n c zs)) (h : Hid (RdSt w g b off n c zs en S)) (hen : en ≤ n) (hmost : most ≤ 100000) (hT : Hid (T = (S.to (countR most)).st)) (hv : Hid (v = (S.to (countR most)).val 0)) :
    Calls Tryd.prog 66 #[.pointer (some ⟨g, 0, none⟩), .int .i64 (most : Int)] w (RPost g b off n c zs en T (.int .i64 (v : Int)) w) := count_at hz h hen hmost hT hv
/-- The steps of a program. -/
theorem pg_steps (S0 S1 SA : Rd Unit) (k : Nat) (L : List (Fn × List Int)) (h1 : S1 = (S0.to (countR 80)).st) (hk : k = (S0.to (countR 80)).val 0) (h2 : ∀ (β : Type) (K : List (Fn × List Int) → List Int → Rd β), (S1.to (timesR fnR k)).and K = SA.to (K L)) : S0.to pgR = SA.to (endR L) := by
  unfold pgR
  rw [Rd.to_and, Rd.and_to 0, ← h1, ← hk, Rd.to_and, h2]

set_option maxRecDepth 100000 in
set_option maxHeartbeats 8000000 in
theorem parse_main (b off m n c : Nat) (zs : List Int) (w : World) (hnm : Hid (n = m + 4)) (hz : Hid (Src n c zs)) (hs : Hid (Sees w w.heap.size (some ⟨b, off, none⟩) (cellsU8 zs))) (h9 : Hid (9 ≤ n)) (hmg : Hid (zs.take 4 = magic)) (hcr : Hid (crcB zs = true)) :
    Calls Tryd.prog 41 #[.slice (some ⟨b, off, none⟩) n c] w (PaPost zs w) := by
  obtain ⟨j0, ji, jz0, jz1, jz2⟩ := info_parts Tryd.info53q
  obtain ⟨l0, li, lz0, lz1, lz2⟩ := info_parts Tryd.info22q
  have hm5 : 5 ≤ m := by have := h9.out; have := hnm.out; omega
  have h20 : m ≤ 1048572 := by have := hz.out.most; have := hnm.out; omega
  have hn20 := hz.out.most
  have hnc := hz.out.nc
  have hz0 : (n : Int) ≤ 1048576 := by omega
  have hz1 : (9 : Int) ≤ (n : Int) := by have := h9.out; omega
  have hn4 : (n : Int) - 4 = (m : Int) := by have := hnm.out; omega
  have hmn : m ≤ n := by have := hnm.out; omega
  have hmc : m < c := by have := hz.out.nc; have := hnm.out; omega
  have E := hide (show parseR zs = (match pgR ((zs.take m).drop 4) with
      | .no e => (e, [])
      | .ok L _ => (0, L)) by
    have hc := hcr.out
    unfold crcB at hc
    have hc := of_decide_eq_true hc
    unfold parseR
    rw [if_neg (by rw [hz.out.len]; omega), if_neg (by rw [hz.out.len]; have := h9.out; omega), if_pos ⟨hmg.out, hc⟩, hz.out.len, hnm.out, Nat.add_sub_cancel]
    rfl)
  obtain ⟨W, hW⟩ : ∃ W, w.alloc (.cells #[.slice none 0 0] 28) = W := ⟨_, rfl⟩
  have HW := hide hW
  have hsW := hide (show Sees W W.heap.size (some ⟨b, off, none⟩) (cellsU8 zs) by rw [← hW]; exact (hs.out.alloc (Nat.le_refl _) _).more (by simp))
  have hrW := hide (show Row W w.heap.size 28 [.slice none 0 0] by rw [← hW]; exact Row.new w _ _)
  have hbW := hide (show Below w.heap.size w W by rw [← hW]; exact below1 w _)
  have hWs : W.heap.size = w.heap.size + 1 := by rw [← hW]; simp
  clear hW
  have hcv : (convert 22 9 (.slice (some ⟨b, off, none⟩) 4 c)).run Tryd.prog W = .ok (.string { data := #[83, 73, 82, 49] }) W := by
    rw [← (magic_str (hz.out.byt.take 4)).2 hmg.out]
    refine run_convert_bytes_arg W 22 5 Tryd.underlying22 Tryd.underlying5 b off 4 c (zs.take 4) (by rw [List.length_take, hz.out.len]; omega) (fun i hi => ?_) 9 Tryd.underlying9
    obtain ⟨b', off', z, e, _, hcell, _, _, hzk⟩ := byte_at (zs := zs) (k := i) hsW.out (by rw [hz.out.len]; omega) hz.out.byt
    injection e with e
    injection e with e1 e2
    subst e1 e2
    rw [hcell, List.getD_eq_getElem?_getD, List.getElem?_take, if_pos hi, hzk.out]
    rfl
  have ci := rcrcis_any b off m c zs W.heap.size W (hide (hz.out.len.trans hnm.out)) (by omega) (by have := hnm.out; omega) hz.out.cm hsW (hide hz.out.byt)
  rw [hcr.out, ← hnm.out] at ci
  obtain ⟨WG, hWG⟩ : ∃ WG, W.alloc (.cells #[.slice (some ⟨b, off, none⟩) n c, .int .i64 4, .int .i64 (m : Int), .int .i64 0] 95) = WG := ⟨_, rfl⟩
  obtain ⟨WP, hWP⟩ : ∃ WP, WG.alloc (.cells #[.slice none 0 0] 28) = WP := ⟨_, rfl⟩
  obtain ⟨g, hg⟩ : ∃ g, W.heap.size = g := ⟨_, rfl⟩
  obtain ⟨gp, hgp⟩ : ∃ gp, g + 1 = gp := ⟨_, rfl⟩
  have hGs : WG.heap.size = gp := by rw [← hWG, ← hgp, ← hg]; simp
  have H0 : Hid (PaI WG g gp w.heap.size b off n c zs m (.ok () ((zs.take m).drop 4)) none 0 0 [] [] (.slice none 0 0) [] [] WP) := by
    have hrow : Row WG g 95 [.slice (some ⟨b, off, none⟩) n c, .int .i64 4, .int .i64 (m : Int), .int .i64 0] := by rw [← hWG, ← hg]; exact Row.new W _ _
    have hR : RdSt WG g b off n c zs m (.ok () ((zs.take m).drop 4)) := ⟨4, 0, ⟨hrow, by rw [← hWG, ← hg]; exact hsW.out.alloc (Nat.le_refl _) _⟩, by omega, rfl, rfl⟩
    rw [← hWP]
    refine hide ⟨(Kp.start hR).alloc _, (Row.new WG _ _).at_ hGs, ?_, zero_pg _ _ _, ⟨rfl, .inl ⟨rfl, rfl⟩⟩, rfl, (fun k r d e => by simp at e), (fun h => by omega), (fun h hm => by cases hm), (fun r hm => by cases hm)⟩
    rw [← hWG]
    exact (hrW.out.alloc _).alloc _
  have hbP := hide (show Below w.heap.size w WG by rw [← hWG]; exact hbW.out.alloc (by omega) _)
  have HWG := hide hWG
  have HWP := hide hWP
  have HG := hide hg
  have HGP := hide hgp
  have hgl : w.heap.size < g := by omega
  have hggp : g < gp := by omega
  have hGl : g < WG.heap.size := by omega
  have hGe : WG.heap.size ≤ gp := by omega
  have HGS := hide hGs
  clear hWG hWP hg hgp hGs hWs
  go_enter Tryd.func41, Tryd.ntmps41
  go_upto_region 1 with (fail)
  rw [HW.out]
  go_wp2_with fail
  refine ci.mono ?_
  rintro e w' ⟨rfl, rfl⟩
  obtain ⟨k0, hk0⟩ : ∃ v', Hid (v' = ((Rd.ok () ((zs.take m).drop 4) : Rd Unit).to (countR 80)).val 0) := ⟨_, hide rfl⟩
  obtain ⟨S1, hS1⟩ : ∃ T, Hid (T = ((Rd.ok () ((zs.take m).drop 4) : Rd Unit).to (countR 80)).st) := ⟨_, hide rfl⟩
  go_wp2_with fail
  rw [HWG.out, HWP.out, HG.out, HGP.out]
  clear HWG HWP ci hcv HW hsW hrW hbW
  have hk5 : k0 ≤ 80 := by rw [hk0.out]; exact count_le hz.out H0.out.kp.r
  refine (count_in (most := 80) hz (hide H0.out.kp.r) (by omega) (by omega) hS1 hk0).mono ?_
  rintro e w3 ⟨rfl, hR3, hG3⟩
  have H3 := hide (H0.out.next hggp (by omega) hR3 hG3)
  clear hR3 hG3 H0
  go_wp2_with fail
  go_loopw [7, 8, 9, 10] (fun lv kv _ _ wr => ∃ (k' : Nat) (S : Rd Unit) (A : Option Addr) (cA : Nat) (hs : List Hd) (L : List (Fn × List Int)) (rs : List Sl), kv = .int .i64 (k' : Int) ∧ k' + L.length ≤ k0 ∧ Hid (LoopI fnR S1 k0 S k' L) ∧ Hid (PaI WG g gp w.heap.size b off n c zs m S A L.length cA hs (L.map (·.1)) lv rs (L.map (·.2)) wr)) (fun _ kv _ _ _ => (intOf kv).toNat)
  case atStart => exact ⟨k0, S1, none, 0, [], [], [], rfl, by simp, hide (LoopI.start fnR S1 k0), H3⟩
  case round =>
    obtain ⟨k', S, A, cA, hs, L, rs, rfl, hkl, hI, hF⟩ := hrel
    clear H3
    by_cases hlt : 0 < k'
    · obtain ⟨j, rfl⟩ : ∃ j, k' = j + 1 := ⟨k' - 1, by omega⟩
      have hlz : (0 : Int) < ((j + 1 : Nat) : Int) := by omega
      cases S with
      | no xx =>
        have H5 := hide (fun β K => hI.out.broke β K)
        obtain ⟨k1, e, r1, hke1, he0, he1, he2⟩ := hF.out.kp.r
        have c3 := r1.row.cell (k := 3) rfl
        rw [he0] at c3
        have hb : (xx == 0) = false := by rw [beq_eq_false_iff_ne]; omega
        clear r1 he0 hI
        go_wp2_with fail
        have DS := hide (pg_steps (.ok () ((zs.take m).drop 4)) S1 (.no xx) k0 L hS1.out hk0.out H5.out)
        have DE := hide (show pgR ((zs.take m).drop 4) = .no xx from DS.out)
        have EP := hide (show parseR zs = (xx, []) by rw [E.out, DE.out])
        have z0 := hF.out.res.cell (k := 0) rfl
        have y0 := hF.out.res.free 0
        have hrl := hF.out.res.lt
        have HBW := hide (below_grown hbP.out hF.out.kp.g (by omega) (by omega))
        go_quiet (fail)
        go_wp2_with fail
        go_region
        all_goals
          have f0 : ∀ q : Nat, ((wr.drewN q).setCell ⟨w.heap.size, 0, none⟩ (.slice none 0 0)).cell? ⟨w.heap.size, 0, none⟩ = some (.slice none 0 0) := fun q => World.cell?_setCell_same _ _ _ z0
          have f00 : (wr.setCell ⟨w.heap.size, 0, none⟩ (.slice none 0 0)).cell? ⟨w.heap.size, 0, none⟩ = some (.slice none 0 0) := World.cell?_setCell_same _ _ _ z0
          have FC := below_draws (below_put HBW.out (Nat.le_of_lt hrl) (Nat.le_refl w.heap.size) 0 (.slice none 0 0)) 1
          have FB := fun q : Nat => below_put (below_draws HBW.out q) (Nat.le_of_lt hrl) (Nat.le_refl _) 0 (.slice none 0 0)
          go_wp2_with fail
          exact bodyPost_ret (v := .tuple #[gv none 0 0, .slice none 0 0, .int .i64 xx]) (by simp [results, Tryd.results41, go_sem, f0]) rfl (pa_zero EP.out (FB _))

      | ok u t =>
        obtain ⟨k1, e, r1, hke1, rfl, hs1⟩ := hF.out.kp.r
        have c3 := r1.row.cell (k := 3) rfl
        clear r1 hs1
        go_wp2_with fail
        refine (func_any g b off n c m zs (.ok () t) _ hz (hide hF.out.kp.r) (by omega) hmc).mono ?_
        rintro e w4 ⟨P, A1, n1, c1, A2, n2, c2, A3, n3, c3', f, d, rfl, hh, hd, hR4, hG4, hxy⟩
        have N4 := hide (hI.out.step (a := (f, d)) hxy)
        have HH := hide hh
        have HD := hide hd
        have HR4 := hide hR4
        have HG4 := hide hG4
        obtain ⟨gs, hgs⟩ : ∃ gs, gs = w4.heap.size := ⟨_, rfl⟩
        obtain ⟨wb, hwb⟩ : ∃ wb, w4.alloc (.cells #[.int .i64 P, .slice A1 n1 c1, .slice A2 n2 c2] 53) = wb := ⟨_, rfl⟩
        have HWB := hide hwb
        have HRW := hide (hF.out.rowb hggp hG4 hwb)
        have HCS := hide (hF.out.seeb hggp hG4 hwb)
        have HS4 := hide (show Row wb gs 53 [.int .i64 P, .slice A1 n1 c1, .slice A2 n2 c2] by rw [hgs, ← hwb]; exact Row.new _ _ _)
        have HGSS := hide hgs
        clear hh hd hR4 hG4 hxy c3 hI hwb hgs
        go_wp2_with fail
        rw [HWB.out, ← HGSS.out]
        clear HGSS
        have hhl : hs.length = L.length := by rw [hF.out.pg.hd.len, hF.out.pg.len]
        have HCA := hide hF.out.pg.cap.1
        have HCL := hide (show (hcells hs).length = L.length * 3 by rw [hcells_length, hhl])
        have HCC := hide hF.out.pg.cap.2.1
        have hLl : L.length ≤ 80 := by omega
        have HLL := hide hhl
        have a0 := HRW.out.cell (k := 0) rfl
        have a1 : ∀ o : Obj, (wb.alloc o).cell? ⟨gp, 0, none⟩ = some (.slice A L.length cA) := fun o => (HRW.out.alloc o).cell (k := 0) rfl
        have s0 := HS4.out.cell (k := 0) rfl
        have s1 := HS4.out.cell (k := 1) rfl
        have s2 := HS4.out.cell (k := 2) rfl
        have hsl := HS4.out.lt
        clear hhl
        go_region_law
          (first
            | (refine wp_append_seesN (.const (.slice none 0 0)) (.tmp 57) 26 rfl wb.heap.size 53 j0 (.agg #[.int .i64 0, .slice none 0 0, .slice none 0 0]) 3 56 Tryd.underlying26 ji jz0 jz1 jz2 rfl (by decide) (.slice none 0 0) 0 [] rfl (World.ownsRow_nil _ _ _ _) wb.heap.size A L.length cA (hcells hs) rfl HCA HCL (hide (HCS.out.draws 1)) HCC (hcells_oneCell _) (by unfold maxLen; omega) (by omega) (Nat.le_refl _) ?_; intro v1 w5 ho1 hg1; have hG1 : wb.grownBy w5 none := (grown_draws (World.grownBy.refl wb none) 1).trans hg1; have s20 := (HS4.out.grown hG1 (fun e => by cases e)).cell (k := 0) rfl; have s21 := (HS4.out.grown hG1 (fun e => by cases e)).cell (k := 1) rfl; have s22 := (HS4.out.grown hG1 (fun e => by cases e)).cell (k := 2) rfl)
            | (refine wp_append_seesN (.const (.slice none 0 0)) (.tmp 57) 26 rfl wb.heap.size 53 j0 (.agg #[.int .i64 0, .slice none 0 0, .slice none 0 0]) 3 56 Tryd.underlying26 ji jz0 jz1 jz2 rfl (by decide) (.slice none 0 0) 0 [] rfl (World.ownsRow_nil _ _ _ _) wb.heap.size A L.length cA (hcells hs) rfl HCA HCL (hide ((HCS.out.draws 1).alloc (Nat.le_refl _) _)) HCC (hcells_oneCell _) (by unfold maxLen; omega) (by omega) (by simp) ?_; intro v1 w5 ho1 hg1; have hG1 : wb.grownBy w5 none := ((grown_draws (World.grownBy.refl wb none) 1).trans (World.grownBy_alloc _ _ _)).trans hg1; have hN1 := ((Row.new (wb.drewN 1) 53 [.int .i64 P, .slice A1 n1 c1, .slice A2 n2 c2]).at_ (g' := wb.heap.size) rfl).grown hg1 (fun e => by cases e))
            | (refine wp_append_own _ (.tmp 58) (.tmp 60) 26 rfl wb.heap.size 53 j0 (.agg #[.int .i64 0, .slice none 0 0, .slice none 0 0]) 3 56 Tryd.underlying26 ji jz0 jz1 jz2 rfl (by decide) v1 (0 + L.length) ([] ++ hcells hs) rfl (ho1.alloc _) ⟨w5.heap.size, 0, none⟩ 1 1 [.int .i64 P, .slice A1 n1 c1, .slice A2 n2 c2] rfl rfl (fun j u hu => by rw [WideShapes.add_plain, Nat.zero_add]; exact (Row.new w5 53 [.int .i64 P, .slice A1 n1 c1, .slice A2 n2 c2]).cell hu) (hcells_oneCell [⟨P, A1, n1, c1, A2, n2, c2⟩]) (by unfold maxLen; omega) (by omega) (by have := hG1.size; simp; omega) ?_; intro v2 w6 ho2 hg2 _; have HG6 : Hid (wb.grownBy w6 none) := hide ((hG1.trans (World.grownBy_alloc _ _ _)).andThen hg2 (fun k hk => .inl (ho1.lt k hk).1)); obtain ⟨A6, c6, rfl, hA6, hc6, hf6, -⟩ := own_seen ho2; have b0 := (HRW.out.grown HG6.out (fun e => by cases e)).cell (k := 0) rfl; have b1 := (HRW.out.grown HG6.out (fun e => by cases e)).free 0)
            | (refine wp_append_own _ (.tmp 58) (.tmp 60) 26 rfl wb.heap.size 53 j0 (.agg #[.int .i64 0, .slice none 0 0, .slice none 0 0]) 3 56 Tryd.underlying26 ji jz0 jz1 jz2 rfl (by decide) v1 (0 + L.length) ([] ++ hcells hs) rfl ho1 ⟨wb.heap.size, 0, none⟩ 1 1 [.int .i64 P, .slice A1 n1 c1, .slice A2 n2 c2] rfl rfl (fun j u hu => by rw [WideShapes.add_plain, Nat.zero_add]; exact hN1.cell hu) (hcells_oneCell [⟨P, A1, n1, c1, A2, n2, c2⟩]) (by unfold maxLen; omega) (by omega) hG1.size ?_; intro v2 w6 ho2 hg2 _; have HG6 : Hid (wb.grownBy w6 none) := hide (hG1.andThen hg2 (fun k hk => .inl (ho1.lt k hk).1)); obtain ⟨A6, c6, rfl, hA6, hc6, hf6, -⟩ := own_seen ho2; have b0 := (HRW.out.grown HG6.out (fun e => by cases e)).cell (k := 0) rfl; have b1 := (HRW.out.grown HG6.out (fun e => by cases e)).free 0))
        all_goals
          simp only [Nat.zero_add] at ho2
          have HO2 := hide ho2
          have O7 := hide (hF.out.own7 (u := .slice A6 (L.length + 1) c6) hggp HG4.out HWB.out HG6.out)
          have hgp6 : gp + 1 ≤ w6.heap.size := by have h1 := HRW.out.lt; have h2 := HG6.out.size; omega
          clear ho2 hg2 ho1 hg1 hG1 hA6 hc6 hf6 a0 a1 s0 s1 s2
          go_wp2_with (at_builtin; go_loud (refine wpList_append_where rfl (.tmp 63) (.tmp 65) 39 rfl (gp + 1) 22 l0 (.slice none 0 0) 1 24 Tryd.underlying39 li lz0 lz1 lz2 rfl (by decide) _ L.length (rs.map slv) rfl (O7.out.alloc _) ⟨_, 0, none⟩ 1 1 [.slice A3 n3 c3'] rfl rfl (one_at _ _ _ (by simp [World.setCell])) (own_cell (A3, n3, c3')) (by unfold maxLen; omega) (by omega) (by simp [World.setCell]; omega) ?_))
          intro lv' w8 ho8 hg8 hL8
          have HN := hide (hF.out.add hggp (by omega) hGe hGl (by omega) HH.out HD.out HR4.out HG4.out HWB.out HG6.out HO2.out hg8 ho8 hL8)
          clear ho8 hg8 hL8
          go_wp2_with fail
          go_roundw
          case rel => exact ⟨j, _, A6, c6, _, L ++ [(f, d)], _, by go_num, by simp; omega, N4, by simpa using HN⟩
          case measure => simp [intOf]

    · obtain rfl : k' = 0 := by omega
      rw [show ((0 : Nat) : Int) = 0 from rfl]
      have H5 := hide (fun β K => hI.out.done β K)
      clear hI
      go_wp2_with fail
      cases S with
      | no xx =>
        have DS := hide (pg_steps (.ok () ((zs.take m).drop 4)) S1 (.no xx) k0 L hS1.out hk0.out H5.out)
        obtain ⟨k1, e, r1, hke1, he0, he1, he2⟩ := hF.out.kp.r
        have c3 := r1.row.cell (k := 3) rfl
        rw [he0] at c3
        have hb : (xx == 0) = false := by rw [beq_eq_false_iff_ne]; omega
        clear r1 he0
        have DE := hide (show pgR ((zs.take m).drop 4) = .no xx from DS.out)
        have EP := hide (show parseR zs = (xx, []) by rw [E.out, DE.out])
        have z0 := hF.out.res.cell (k := 0) rfl
        have y0 := hF.out.res.free 0
        have hrl := hF.out.res.lt
        have HBW := hide (below_grown hbP.out hF.out.kp.g (by omega) (by omega))
        go_quiet (fail)
        go_wp2_with fail
        go_region
        all_goals
          have f0 : ∀ q : Nat, ((wr.drewN q).setCell ⟨w.heap.size, 0, none⟩ (.slice none 0 0)).cell? ⟨w.heap.size, 0, none⟩ = some (.slice none 0 0) := fun q => World.cell?_setCell_same _ _ _ z0
          have f00 : (wr.setCell ⟨w.heap.size, 0, none⟩ (.slice none 0 0)).cell? ⟨w.heap.size, 0, none⟩ = some (.slice none 0 0) := World.cell?_setCell_same _ _ _ z0
          have FC := below_draws (below_put HBW.out (Nat.le_of_lt hrl) (Nat.le_refl w.heap.size) 0 (.slice none 0 0)) 1
          have FB := fun q : Nat => below_put (below_draws HBW.out q) (Nat.le_of_lt hrl) (Nat.le_refl _) 0 (.slice none 0 0)
          go_wp2_with fail
          exact bodyPost_ret (v := .tuple #[gv none 0 0, .slice none 0 0, .int .i64 xx]) (by simp [results, Tryd.results41, go_sem, f0]) rfl (pa_zero EP.out (FB _))

      | ok uu t =>
        have DS := hide (pg_steps (.ok () ((zs.take m).drop 4)) S1 (.ok uu t) k0 L hS1.out hk0.out H5.out)
        obtain ⟨k1, e, r1, hke1, rfl, hs1⟩ := hF.out.kp.r
        have c1 := r1.row.cell (k := 1) rfl
        have c2 := r1.row.cell (k := 2) rfl
        have c3 := r1.row.cell (k := 3) rfl
        have hl1 := rest_len hs1 hz.out.len hmn
        clear r1 hs1
        cases t with
        | nil =>
          have hge : (m : Int) ≤ (k1 : Int) := by simp at hl1; omega
          clear hl1
          have DE := hide (show pgR ((zs.take m).drop 4) = .ok L [] from DS.out)
          have EP := hide (show parseR zs = (0, L) by rw [E.out, DE.out])
          have z0 := hF.out.res.cell (k := 0) rfl
          have y0 := hF.out.res.free 0
          have p0 := hF.out.row.cell (k := 0) rfl
          have HBW := hide (below_grown hbP.out hF.out.kp.g (by omega) (by omega))
          obtain ⟨A7, c7, rfl, -⟩ := own_seen hF.out.own
          go_quiet (fail)
          have HFQ := hide (PaI.drewN hF.out nq)
          have FIN := hide (pa_end HFQ.out rfl hgl hggp (below_draws HBW.out nq) EP.out)
          have f0 : ((wr.drewN nq).setCell ⟨w.heap.size, 0, none⟩ (.slice A L.length cA)).cell? ⟨w.heap.size, 0, none⟩ = some (.slice A L.length cA) := World.cell?_setCell_same _ _ _ z0
          go_wp2_with fail
          exact bodyPost_ret (v := .tuple #[gv A L.length cA, .slice A7 L.length c7, .int .i64 0]) (by simp [results, Tryd.results41, go_sem, f0]) rfl FIN.out

        | cons z t =>
          have hlt1 : (k1 : Int) < (m : Int) := by simp at hl1; omega
          clear hl1
          have DE := hide (show pgR ((zs.take m).drop 4) = .no 2 from DS.out)
          go_quiet (fail)
          go_wp2_with fail
          refine (fail_ok (l := z :: t) (x := 2) (hide (hF.out.kp.r.drewN _)) (by omega)).mono ?_
          rintro e w8 ⟨rfl, hR8, hG8⟩
          have F8 := hide (PaI.next hF.out hggp (by omega) hR8 (World.grownBy.trans (grown_draws (World.grownBy.refl _ (some g)) _) hG8))
          clear hR8 hG8 hF
          obtain ⟨k9, e9, r9, hke9, rfl, hx9⟩ := F8.out.kp.r
          have c9 := r9.row.cell (k := 3) rfl
          clear r9
          have EP := hide (show parseR zs = (2, []) by rw [E.out, DE.out])
          have z0 := F8.out.res.cell (k := 0) rfl
          have y0 := F8.out.res.free 0
          have hrl := F8.out.res.lt
          have HBW := hide (below_grown hbP.out F8.out.kp.g (by omega) (by omega))
          go_wp2_with fail
          go_region
          all_goals
            have f0 : ∀ q : Nat, ((w8.drewN q).setCell ⟨w.heap.size, 0, none⟩ (.slice none 0 0)).cell? ⟨w.heap.size, 0, none⟩ = some (.slice none 0 0) := fun q => World.cell?_setCell_same _ _ _ z0
            have f00 : (w8.setCell ⟨w.heap.size, 0, none⟩ (.slice none 0 0)).cell? ⟨w.heap.size, 0, none⟩ = some (.slice none 0 0) := World.cell?_setCell_same _ _ _ z0
            have FC := below_draws (below_put HBW.out (Nat.le_of_lt hrl) (Nat.le_refl w.heap.size) 0 (.slice none 0 0)) 1
            have FB := fun q : Nat => below_put (below_draws HBW.out q) (Nat.le_of_lt hrl) (Nat.le_refl _) 0 (.slice none 0 0)
            go_wp2_with fail
            exact bodyPost_ret (v := .tuple #[gv none 0 0, .slice none 0 0, .int .i64 2]) (by simp [results, Tryd.results41, go_sem, f00]) rfl (pa_zero EP.out FC)


theorem parse_any (A : Option Addr) (n c : Nat) (zs : List Int) (w : World) (hn : Hid (zs.length = n)) (hnc : n ≤ c) (hcm : c ≤ 9223372036854775807) (hs : Hid (Sees w w.heap.size A (cellsU8 zs))) (hz : Hid (Byt zs)) : Calls Tryd.prog 41 #[.slice A n c] w (PaPost zs w) := by
  by_cases h1 : 1048576 < n
  · exact parse_far A n c zs w hn h1 (by omega)
  · by_cases h2 : n < 9
    · exact parse_near A n c zs w hn h2
    · obtain ⟨b, off, rfl, _, _⟩ := hs.out 0 (.int .u8 (zs.getD 0 0)) (get_u8 (by rw [hn.out]; omega))
      have hsrc : Src n c zs := ⟨hn.out, hnc, hcm, by omega, hz.out⟩
      by_cases h3 : zs.take 4 = magic ∧ crcB zs = true
      · exact parse_main b off (n - 4) n c zs w (hide (by show _ = _; omega)) (hide hsrc) hs (hide (by show _ ≤ _; omega)) (hide h3.1) (hide h3.2)
      · exact parse_bad b off n c zs w (hide hsrc) hs (by omega) (hide h3)
end Go.Proofs.YtgcjckbndkddmaaDoor
end
