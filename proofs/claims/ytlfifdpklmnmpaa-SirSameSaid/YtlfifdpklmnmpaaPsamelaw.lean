/-
  The walk of the law on sameness. Conditions: those of the types.
-/
import Derived.Test.YtlfifdpklmnmpaaDodd
import Derived.Test.YtlfifdpklmnmpaaPfine
import Derived.Test.YtlfifdpklmnmpaaPalign
import Derived.Test.YtlfifdpklmnmpaaPsame
import Derived.Test.YtlfifdpklmnmpaaPrsame
import Derived.Test.YtlfifdpklmnmpaaPawake
namespace Go.Proofs.Ytlfifdpklmnmpaa
open Go.RowKit

/-- A pair of programs of the literal, in the block Z. -/
structure Pair (w : World) (Z i : Nat) (A1 : Option Addr) (n1 c1 : Nat) (hs1 : List Hd) (F1 : Pg) (lo1 B1 : Nat) (A2 : Option Addr) (n2 c2 : Nat) (hs2 : List Hd) (F2 : Pg) (lo2 B2 : Nat) : Prop where
  cell1 : w.cell? ⟨Z, i * 2, none⟩ = some (.slice A1 n1 c1)
  cell2 : w.cell? ⟨Z, i * 2 + 1, none⟩ = some (.slice A2 n2 c2)
  g1 : PgAt w lo1 B1 A1 n1 c1 hs1 F1
  g2 : PgAt w lo2 B2 A2 n2 c2 hs2 F2
  b1 : B1 ≤ w.heap.size
  b2 : B2 ≤ w.heap.size

set_option maxRecDepth 100000 in
set_option maxHeartbeats 20000000 in
theorem samelaw_walk (A : Option Addr) (n c : Nat) (hs : List Hd) (F : Pg) (A' : Option Addr) (n' c' : Nat) (hs' : List Hd) (F' : Pg) (A0 : Option Addr) (n0 c0 : Nat) (zs : List Int) (w : World)
    (H : Hid (PgAt w 0 w.heap.size A n c hs F)) (H' : Hid (PgAt w 0 w.heap.size A' n' c' hs' F'))
    (hA : A0 = none → c0 = 0) (hn : zs.length = n0) (hnc : n0 ≤ c0) (hm : n0 ≤ 9223372036854775807) (hS : Hid (Sees w w.heap.size A0 (cellsU8 zs))) (hz : ∀ z ∈ zs, 0 ≤ z ∧ z ≤ 255) :
    Calls Try.prog 3 #[gv A n c, gv A' n' c', .slice A0 n0 c0] w fun e w' => e = .returned (.bool true) ∧ Below w.heap.size w w' := by
  have HZ := hide hz
  have HA := hide hA
  have HN := hide hn
  obtain ⟨W, hW, hbW, hsW, r0, r1⟩ := boxes2p w [.slice A n c] [.slice A' n' c'] 24 24
  have HW := hide hW
  have HBW := hide hbW
  have R0 := hide r0
  have R1 := hide r1
  have hx0 := r0.cell (k := 0) rfl
  have hx1 := r1.cell (k := 0) rfl
  have hP := H.out.below hbW
  have hP' := H'.out.below hbW
  have G := hide (fun (V : World) (hV : Below W.heap.size W V) => fine_any A n c hs F 0 w.heap.size V (hide (hP.below (hV.mono (by omega)))) (by have := hV.size; omega))
  have G' := hide (fun (V : World) (hV : Below W.heap.size W V) => fine_any A' n' c' hs' F' 0 w.heap.size V (hide (hP'.below (hV.mono (by omega)))) (by have := hV.size; omega))
  clear hz hA hn hW hbW r0 r1
  cases hf : fineB F with
  | false =>
    simp only [hf] at G
    clear hP hP' hf
    go_enter Try.func3, Try.ntmps3
    go_wp2_with fail
    rw [HW.out]
    refine (awake_any _).mono ?_
    rintro e w' ⟨rfl, rfl⟩
    go_wp2_with fail
    refine (G.out W (Below.refl _ _)).mono ?_
    rintro e w1 ⟨rfl, hb1⟩
    have x1 := keep_cellB hb1 hx0
    have HB1 := hide hb1
    clear hb1
    go_wp2_with fail
    refine (G.out w1 HB1.out).mono ?_
    rintro e w2 ⟨rfl, hb2⟩
    have HB2 := hide (below_call HB1.out hb2)
    go_wp2_with fail
    go_ret
    exact ⟨rfl, HBW.out.trans (HB2.out.mono (by omega))⟩
  | true =>
    cases hf' : fineB F' with
    | false =>
      simp only [hf] at G
      simp only [hf'] at G'
      clear hP hP' hf hf'
      go_enter Try.func3, Try.ntmps3
      go_wp2_with fail
      rw [HW.out]
      refine (awake_any _).mono ?_
      rintro e w' ⟨rfl, rfl⟩
      go_wp2_with fail
      refine (G.out W (Below.refl _ _)).mono ?_
      rintro e w1 ⟨rfl, hb1⟩
      have y1 := keep_cellB hb1 hx1
      have HB1 := hide hb1
      have x1 := keep_cellB hb1 hx0
      clear hb1
      go_wp2_with fail
      refine (G'.out w1 HB1.out).mono ?_
      rintro e w2 ⟨rfl, hb2⟩
      have HB2 := hide (below_call HB1.out hb2)
      have x2 := keep_cellB HB2.out hx0
      have y2 := keep_cellB HB2.out hx1
      clear hb2 x1 y1
      go_wp2_with fail
      refine (G.out w2 HB2.out).mono ?_
      rintro e w3 ⟨rfl, hb3⟩
      have HB3 := hide (below_call HB2.out hb3)
      have y3 := keep_cellB HB3.out hx1
      clear hb3 x2 y2
      go_wp2_with fail
      refine (G'.out w3 HB3.out).mono ?_
      rintro e w4 ⟨rfl, hb4⟩
      have HB4 := hide (below_call HB3.out hb4)
      go_wp2_with fail
      go_ret
      exact ⟨rfl, HBW.out.trans (HB4.out.mono (by omega))⟩
    | true =>
      simp only [hf] at G
      simp only [hf'] at G'
      clear hP hP' hf hf'
      go_enter Try.func3, Try.ntmps3
      go_wp2_with fail
      rw [HW.out]
      refine (awake_any _).mono ?_
      rintro e w' ⟨rfl, rfl⟩
      go_wp2_with fail
      refine (G.out W (Below.refl _ _)).mono ?_
      rintro e w1 ⟨rfl, hb1⟩
      have y1 := keep_cellB hb1 hx1
      have HB1 := hide hb1
      clear hb1
      go_wp2_with fail
      refine (G'.out w1 HB1.out).mono ?_
      rintro e w2 ⟨rfl, hb2⟩
      have HB2 := hide (below_call HB1.out hb2)
      have HBw2 := hide (HBW.out.trans (HB2.out.mono (by omega)))
      have hw2 : w.heap.size ≤ w2.heap.size := HBw2.out.size
      clear hb2 y1
      go_wp2_with fail
      refine (new_any A0 n0 c0 zs 200 w2 HA HN hnc hm (by omega) (hide ((hS.out.below HBw2.out).more hw2)) HZ).mono ?_
      rintro e w3 ⟨rfl, hC3, hb3⟩
      have HC3 := hide hC3
      have HB3 := hide (below_call HB2.out hb3)
      have hw3 : w2.heap.size < w3.heap.size := hC3.lt
      clear hC3 hb3
      go_wp2_with fail
      refine (prog_any w2.heap.size 3 8 w3 HC3 (by omega) (by omega) (by omega)).mono ?_
      rintro e w4 ⟨AX, nX, cX, hsX, FX, rfl, hpg, hgood, hC4, hG4⟩
      have HB4 := hide (below_grown HB3.out hG4 (by have := HB2.out.size; omega) (by have := HB3.out.size; omega))
      have hw4 : w3.heap.size ≤ w4.heap.size := hG4.size
      have hlen : FX.length = nX := hpg.len
      have hn1 : 1 ≤ nX := by have := hgood.one; omega
      have hn80 : nX ≤ 80 := by have := hgood.few; omega
      have HPX := hide hpg
      have HGD : Hid (∀ f ∈ FX, 1 ≤ f.code.length ∧ f.code.length ≤ 1024 ∧ f.slots.length ≤ 512) := hide (fun f hfm => by
        obtain ⟨k, hk, rfl⟩ := List.getElem_of_mem hfm
        have := hgood.fn k _ (List.getElem?_eq_getElem hk)
        exact ⟨this.1.some, by have := this.1.short; omega, by have := this.1.few; omega⟩)
      have HC4 := hide (hC4.alloc (.cells #[.slice AX nX cX] 24))
      have HP4 := hide (HPX.out.alloc (.cells #[.slice AX nX cX] 24))
      have HB4' := hide (HB4.out.alloc (by have := HB4.out.size; omega) (.cells #[.slice AX nX cX] 24))
      have r4 := Row.new w4 24 [.slice AX nX cX]
      have x4 := r4.cell (k := 0) rfl
      have HR4 := hide r4
      clear hpg hgood hC4 hG4 hlen r4
      go_wp2_with fail
      have hg0 : w2.heap.size < w3.heap.size := hw3
      refine (odd_any w2.heap.size w3.heap.size AX nX cX hsX FX _ HC4 (hide (HP4.out.more (by simp) (Nat.le_refl _))) hg0 (by simp; omega) hn1 hn80 HGD).mono ?_
      rintro e w5 ⟨AY, cY, hsY, FY, rfl, hpy, hC5, hG5⟩
      have hw5 : w4.heap.size + 1 ≤ w5.heap.size := by have := hG5.size; simpa using this
      have HB5 := hide ((below_grown HB4'.out hG5 (by have := HB2.out.size; omega) (by have := HB4'.out.size; omega)))
      have r4 := HR4.out.grown hG5 (fun e => by injection e with e; omega)
      have HPX5 := hide ((HP4.out.grown hG5 hg0 (by simp)).more (B' := w5.heap.size) (by simp; omega) (Nat.le_refl _))
      have HPY5 := hide hpy
      have hWw : W.heap.size ≤ w3.heap.size := HB3.out.size
      have r5 := Row.new w5 24 [.slice AY nX cY]
      have HB6 := hide (HB5.out.alloc (by have := HB5.out.size; omega) (.cells #[.slice AY nX cY] 24))
      have x0 := keep_cellB HB6.out hx0
      have x1 := keep_cellB HB6.out hx1
      have x4 := (r4.alloc (.cells #[.slice AY nX cY] 24)).cell (k := 0) rfl
      have x5 := r5.cell (k := 0) rfl
      have HR4' := hide (r4.alloc (.cells #[.slice AY nX cY] 24))
      clear hpy hC5 hG5 r4 HC4 HP4 HB4' HR4 HGD HB5
      go_wp2_with fail
      obtain ⟨wl, hwl⟩ : ∃ wl, (w5.alloc (.cells #[.slice AY nX cY] 24)).alloc (.cells #[.slice A n c, .slice A' n' c', .slice A n c, .slice A n c, .slice AX nX cX, .slice AY nX cY, .slice AX nX cX, .slice AX nX cX] 32) = wl := ⟨_, rfl⟩
      obtain ⟨Z, hZ⟩ : ∃ Z, w5.heap.size + 1 = Z := ⟨_, rfl⟩
      have hbl : Below (w5.alloc (.cells #[.slice AY nX cY] 24)).heap.size (w5.alloc (.cells #[.slice AY nX cY] 24)) wl := hwl ▸ below1 _ _
      have hb5l : Below w5.heap.size w5 wl := (below1 w5 _).trans (hbl.mono (by simp))
      have HBl := hide (HB6.out.trans (hbl.mono (by have := HB6.out.size; omega)))
      have rz : Row wl Z 32 [.slice A n c, .slice A' n' c', .slice A n c, .slice A n c, .slice AX nX cX, .slice AY nX cY, .slice AX nX cX, .slice AX nX cX] := by
        rw [← hwl, ← hZ]
        have := Row.new (w5.alloc (.cells #[.slice AY nX cY] 24)) 32 [.slice A n c, .slice A' n' c', .slice A n c, .slice A n c, .slice AX nX cX, .slice AY nX cY, .slice AX nX cX, .slice AX nX cX]
        simpa using this
      have HRZ := hide rz
      have hPl := HBl.out.trans (Below.refl _ _)
      have PP := hide (H.out.below ((HBW.out).trans (HBl.out.mono (by omega))))
      have PP' := hide (H'.out.below ((HBW.out).trans (HBl.out.mono (by omega))))
      have PX := hide (HPX5.out.below hb5l)
      have PY := hide (HPY5.out.below hb5l)
      have RX := hide (HR4'.out.call hbl)
      have hwl5 : w5.heap.size ≤ wl.heap.size := hb5l.size
      have PAIR := hide (fun (k : Nat) (hk : k < 4) => (show ∃ (A1 : Option Addr) (n1 c1 : Nat) (hs1 : List Hd) (F1 : Pg) (lo1 B1 : Nat) (A2 : Option Addr) (n2 c2 : Nat) (hs2 : List Hd) (F2 : Pg) (lo2 B2 : Nat), Pair wl Z k A1 n1 c1 hs1 F1 lo1 B1 A2 n2 c2 hs2 F2 lo2 B2 by
        rcases (show k = 0 ∨ k = 1 ∨ k = 2 ∨ k = 3 by omega) with rfl | rfl | rfl | rfl
        · exact ⟨_, _, _, _, _, _, _, _, _, _, _, _, _, _, rz.cell (k := 0) rfl, rz.cell (k := 1) rfl, PP.out, PP'.out, by omega, by omega⟩
        · exact ⟨_, _, _, _, _, _, _, _, _, _, _, _, _, _, rz.cell (k := 2) rfl, rz.cell (k := 3) rfl, PP.out, PP.out, by omega, by omega⟩
        · exact ⟨_, _, _, _, _, _, _, _, _, _, _, _, _, _, rz.cell (k := 4) rfl, rz.cell (k := 5) rfl, PX.out, PY.out, by omega, by omega⟩
        · exact ⟨_, _, _, _, _, _, _, _, _, _, _, _, _, _, rz.cell (k := 6) rfl, rz.cell (k := 7) rfl, PX.out, PX.out, by omega, by omega⟩))
      rw [hwl, hZ]
      clear hwl hZ hbl hb5l rz hPl x0 x1 x4 x5 HB6 HR4' HPX5 HPY5 r5
      go_loopw [53] (fun i wr => ∃ k : Nat, k ≤ 4 ∧ i = .int .i64 k ∧ Hid (Below wl.heap.size wl wr)) (fun i _ => 4 - (intOf i).toNat)
      case atStart => exact ⟨0, by omega, rfl, hide (Below.refl _ _)⟩
      case round =>
        obtain ⟨k, hk, rfl, hbr⟩ := hrel
        by_cases hlt : k < 4
        · have hkz : (0 : Int) ≤ (k : Int) := by omega
          have hkz' : (k : Int) < 4 := by omega
          obtain ⟨A1, n1, c1, hs1, F1, lo1, B1, A2, n2, c2, hs2, F2, lo2, B2, hp⟩ := PAIR.out k hlt
          have z0 := keep_cellB hbr.out hp.cell1
          have z1 := keep_cellB hbr.out hp.cell2
          have HPR := hide hp
          clear hp
          go_wp2_with fail
          obtain ⟨wt, hwt⟩ : ∃ wt, wr.alloc (.cells #[.slice A1 n1 c1, .slice A2 n2 c2] 32) = wt := ⟨_, rfl⟩
          have rt := Row.new wr 32 [.slice A1 n1 c1, .slice A2 n2 c2]
          have hbt := below1 wr (.cells #[.slice A1 n1 c1, .slice A2 n2 c2] 32)
          rw [show ([.slice A1 n1 c1, .slice A2 n2 c2] : List Value).toArray = #[.slice A1 n1 c1, .slice A2 n2 c2] from rfl] at rt
          rw [hwt] at rt hbt ⊢
          obtain ⟨T, hT⟩ : ∃ T, wr.heap.size = T := ⟨_, rfl⟩
          have HBT := hide (hbr.out.trans (hbt.mono hbr.out.size))
          have hlt' : wl.heap.size ≤ wt.heap.size := HBT.out.size
          have t0 := rt.cell (k := 0) rfl
          have t1 := rt.cell (k := 1) rfl
          rw [hT] at t0 t1 ⊢
          obtain ⟨b, hb⟩ : ∃ b, decide (F1 = F2) = b := ⟨_, rfl⟩
          obtain ⟨x, hx⟩ : ∃ x, alP F1 n1 = x := ⟨_, rfl⟩
          have k1 : ∀ p : After wt, Calls Try.prog 9 #[gv A1 n1 c1, gv A2 n2 c2] p.w fun e w' => e = .returned (.bool b) ∧ Below p.w.heap.size p.w w' := fun p => by
            rw [← hb]; exact same_any _ _ _ _ _ _ _ _ _ _ _ _ _ _ p.w (hide (HPR.out.g1.below ((HBT.out.trans (p.b.mono hlt')).mono HPR.out.b1))) (hide (HPR.out.g2.below ((HBT.out.trans (p.b.mono hlt')).mono HPR.out.b2))) (by have := HPR.out.b1; have := p.b.size; omega) (by have := HPR.out.b2; have := p.b.size; omega)
          have k2 : ∀ p : After wt, Calls Try.prog 10 #[gv A1 n1 c1, gv A2 n2 c2] p.w fun e w' => e = .returned (.bool b) ∧ Below p.w.heap.size p.w w' := fun p => by
            rw [← hb]; exact rsame_any _ _ _ _ _ _ _ _ _ _ _ _ _ _ p.w (hide (HPR.out.g1.below ((HBT.out.trans (p.b.mono hlt')).mono HPR.out.b1))) (hide (HPR.out.g2.below ((HBT.out.trans (p.b.mono hlt')).mono HPR.out.b2))) (by have := HPR.out.b1; have := p.b.size; omega) (by have := HPR.out.b2; have := p.b.size; omega)
          have k3 : ∀ p : After wt, Calls Try.prog 11 #[gv A1 n1 c1] p.w fun e w' => e = .returned (.int .i64 x) ∧ Below p.w.heap.size p.w w' := fun p => by
            rw [← hx]; exact palign_any _ _ _ _ _ _ _ p.w (hide (HPR.out.g1.below ((HBT.out.trans (p.b.mono hlt')).mono HPR.out.b1))) (by have := HPR.out.b1; have := p.b.size; omega)
          have k4 : ∀ p : After wt, Calls Try.prog 12 #[gv A1 n1 c1] p.w fun e w' => e = .returned (.int .i64 x) ∧ Below p.w.heap.size p.w w' := fun p => by
            rw [← hx]; exact rpalign_any _ _ _ _ _ _ _ p.w (hide (HPR.out.g1.below ((HBT.out.trans (p.b.mono hlt')).mono HPR.out.b1))) (by have := HPR.out.b1; have := p.b.size; omega)
          have q0 := after_cell t0
          have q1 := after_cell t1
          have K1 := hide k1
          have K2 := hide k2
          have K3 := hide k3
          have K4 := hide k4
          have HRT := hide rt
          have hbb : (b != b) = false := by cases b <;> rfl
          have hxx : (x != x) = false := by simp
          clear k1 k2 k3 k4 t0 t1 hwt hbt z0 z1 hb hx hT
          refine wp_region_after (by kernel_rfl) (by kernel_rfl) ?_
          repeat (go_big_quiet_step ((first
            | (go_at_call 9; with_reducible exact after_of (K1.out _))
            | (go_at_call 10; with_reducible exact after_of (K2.out _))
            | (go_at_call 11; with_reducible exact after_of (K3.out _))
            | (go_at_call 12; with_reducible exact after_of (K4.out _)))))
          refine wpQuiet_nil ?_
          intro _ hw'
          obtain ⟨p1, hw''⟩ := hw'
          subst hw''
          go_wp2_with fail
          clear K1 K2 K3 K4 hbb hxx
          have v0 := q0 p1
          have v1 := q1 p1
          have v0' := after_cell v0
          have v1' := after_cell v1
          have hps := p1.b.size
          have b1 := HPR.out.b1
          have b2 := HPR.out.b2
          clear q0 q1
          by_cases hn1z : n1 = 0
          · have g0 : ¬ ((0 : Int) < (n1 : Int)) := by omega
            have g1 : decide ((0 : Int) < (n1 : Int)) = false := decide_eq_false g0
            refine wp_region_after (by kernel_rfl) (by kernel_rfl) ?_
            repeat (go_big_quiet_step (fail))
            refine wpQuiet_nil ?_
            intro _ hw'
            obtain ⟨p2, hw''⟩ := hw'
            subst hw''
            have HBE := hide ((HBT.out.trans (p1.b.mono hlt')).trans (p2.b.mono (by have := p1.b.size; omega)))
            clear v0 v1
            go_wp2_with fail
            go_roundw
            case rel => exact ⟨k + 1, by omega, by go_num, HBE⟩
            case measure => simp [intOf]; omega
          · have g0 : (0 : Int) < (n1 : Int) := by omega
            have g5 : 0 < n1 := by omega
            have g1 : decide ((0 : Int) < (n1 : Int)) = true := decide_eq_true g0
            by_cases hn2z : n2 = 0
            · have g2 : ¬ ((0 : Int) < (n2 : Int)) := by omega
              have g3 : decide ((0 : Int) < (n2 : Int)) = false := decide_eq_false g2
              refine wp_region_after (by kernel_rfl) (by kernel_rfl) ?_
              iterate 6 (go_big_quiet_step (fail))
              go_big_quiet_step (fail)
              repeat (go_big_quiet_step (fail))
              refine wpQuiet_nil ?_
              intro _ hw'
              obtain ⟨p2, hw''⟩ := hw'
              subst hw''
              have HBE := hide ((HBT.out.trans (p1.b.mono hlt')).trans (p2.b.mono (by have := p1.b.size; omega)))
              clear v0 v1
              go_wp2_with fail
              go_roundw
              case rel => exact ⟨k + 1, by omega, by go_num, HBE⟩
              case measure => simp [intOf]; omega
            · have g2 : (0 : Int) < (n2 : Int) := by omega
              have g6 : 0 < n2 := by omega
              have g3 : decide ((0 : Int) < (n2 : Int)) = true := decide_eq_true g2
              obtain ⟨d1, o1, P1, A11, n11, c11, A12, n12, c12, f1, rfl, hd1, e1, _, h1, i0, i1, i2⟩ := fn_at (HPR.out.g1.below ((HBT.out.trans (p1.b.mono hlt')).mono b1)) (k := 0) (by omega)
              obtain ⟨d2, o2, P2, A21, n21, c21, A22, n22, c22, f2, rfl, hd2, e2, _, h2, j0, j1, j2⟩ := fn_at (HPR.out.g2.below ((HBT.out.trans (p1.b.mono hlt')).mono b2)) (k := 0) (by omega)
              simp only [Nat.zero_mul, Nat.add_zero, Nat.zero_add] at i0 i1 i2 j0 j1 j2
              obtain ⟨b, hb⟩ : ∃ b, decide (f1 = f2) = b := ⟨_, rfl⟩
              have k1 : ∀ p : After p1.w, Calls Try.prog 13 #[fv P1 A11 n11 c11 A12 n12 c12, fv P2 A21 n21 c21 A22 n22 c22] p.w fun e w' => e = .returned (.bool b) ∧ Below p.w.heap.size p.w w' := fun p => by
                rw [← hb]; exact samefn_any _ _ _ _ _ _ _ _ _ _ _ _ _ _ _ _ _ _ _ _ p.w (hide (h1.below (p.b.mono (by omega)))) (hide (h2.below (p.b.mono (by omega)))) (by have := p.b.size; omega) (by have := p.b.size; omega)
              have k2 : ∀ p : After p1.w, Calls Try.prog 14 #[fv P1 A11 n11 c11 A12 n12 c12, fv P2 A21 n21 c21 A22 n22 c22] p.w fun e w' => e = .returned (.bool b) ∧ Below p.w.heap.size p.w w' := fun p => by
                rw [← hb]; exact rsamefn_any _ _ _ _ _ _ _ _ _ _ _ _ _ _ _ _ _ _ _ _ p.w (hide (h1.below (p.b.mono (by omega)))) (hide (h2.below (p.b.mono (by omega)))) (by have := p.b.size; omega) (by have := p.b.size; omega)
              have K1 := hide k1
              have K2 := hide k2
              have hbb : (b != b) = false := by cases b <;> rfl
              have i0' := after_cell i0
              have i1' := after_cell i1
              have i2' := after_cell i2
              have j0' := after_cell j0
              have j1' := after_cell j1
              have j2' := after_cell j2
              clear k1 k2 i0 i1 i2 j0 j1 j2 hb h1 h2 e1 e2
              refine wp_region_after (by kernel_rfl) (by kernel_rfl) ?_
              repeat (go_big_quiet_step ((first
                | (go_at_call 13; with_reducible exact after_of (K1.out _))
                | (go_at_call 14; with_reducible exact after_of (K2.out _)))))
              refine wpQuiet_nil ?_
              intro _ hw'
              obtain ⟨p2, hw''⟩ := hw'
              subst hw''
              have HBE := hide ((HBT.out.trans (p1.b.mono hlt')).trans (p2.b.mono (by have := p1.b.size; omega)))
              clear v0 v1
              go_wp2_with fail
              go_roundw
              case rel => exact ⟨k + 1, by omega, by go_num, HBE⟩
              case measure => simp [intOf]; omega
        · obtain rfl : k = 4 := by omega
          have t0 := (RX.out.call hbr.out).cell (k := 0) rfl
          have hbs := hbr.out.size
          have hT := same_any AX nX cX hsX FX AX nX cX hsX FX w3.heap.size w3.heap.size w5.heap.size w5.heap.size wr (hide (PX.out.below (hbr.out.mono (by omega)))) (hide (PX.out.below (hbr.out.mono (by omega)))) (by omega) (by omega)
          rw [show decide (FX = FX) = true from decide_eq_true rfl] at hT
          have HT := hide hT
          clear hT
          go_wp2_with fail
          refine (HT.out).mono ?_
          rintro e wz ⟨rfl, hbz⟩
          have HBZ := hide (HBW.out.trans (((HBl.out.trans (hbr.out.mono HBl.out.size)).trans (hbz.mono (by have := HBl.out.size; omega))).mono (by omega)))
          go_wp2_with fail
          go_ret
          exact ⟨rfl, HBZ.out⟩
end Go.Proofs.Ytlfifdpklmnmpaa
