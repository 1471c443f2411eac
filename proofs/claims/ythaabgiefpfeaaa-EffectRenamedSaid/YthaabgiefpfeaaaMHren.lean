import Derived.Test.YthaabgiefpfeaaaMHref
import Derived.Test.YthaabgiefpfeaaaMBx
import Derived.Deep.DeepCutAuto
set_option linter.unusedVariables false
set_option linter.unusedSimpArgs false
section
/-
  The contracts of effect.Renamed and of its reference: the instruction with renamed slots. Conditions: those of the types.
-/
namespace Go.Proofs.Ythaabgiefpfeaaa
open Go.RowKit

set_option maxHeartbeats 1000000 in
theorem eplace_any (A : Option Addr) (n c : Nat) (zs : List Int) (s : Int) (w : World) (h : Hid (Lst w A n zs)) : Calls Try.prog 20 #[.slice A n c, .int .i64 s] w fun e w' => e = .returned (.int .i64 (plZ zs s)) ∧ w' = w := by
  have hn := h.out.len
  by_cases h0 : s < 0
  · have hr := hide (plZ_out (to_ := zs) (s := s) (.inl h0))
    go_enter Try.func20, Try.ntmps20
    go_wp2_with fail
    go_ret
    exact ⟨ret_int hr.out.symm, rfl⟩
  · by_cases h1 : (n : Int) ≤ s
    · have hr := hide (plZ_out (to_ := zs) (s := s) (.inr (by omega)))
      go_enter Try.func20, Try.ntmps20
      go_wp2_with fail
      go_ret
      exact ⟨ret_int hr.out.symm, rfl⟩
    · obtain ⟨k, rfl⟩ := Int.eq_ofNat_of_zero_le (show 0 ≤ s by omega)
      have hk : k < zs.length := by omega
      have hr := hide (plZ_in (to_ := zs) (s := (k : Int)) (by omega) (by simpa using hk))
      obtain ⟨b, off, rfl, -, hc⟩ := int_at h.out.see hk
      have hr2 := hide (show plZ zs (k : Int) = zs[k] from hr.out)
      generalize zs[k] = y at hc hr2
      have hk0 : (0 : Int) ≤ (k : Int) := by omega
      have hk1 : (k : Int) < (n : Int) := by omega
      clear hr h1 hn hk
      go_enter Try.func20, Try.ntmps20
      go_wp2_with fail
      go_ret
      exact ⟨ret_int hr2.out.symm, rfl⟩
set_option maxHeartbeats 1000000 in
theorem rrenamed_any (A : Option Addr) (n c : Nat) (zs : List Int) (s : Int) (w : World) (h : Hid (Lst w A n zs)) : Calls Try.prog 21 #[.int .i64 s, .slice A n c] w fun e w' => e = .returned (.int .i64 (plZ zs s)) ∧ w' = w := by
  have hn := h.out.len
  by_cases h0 : s < 0
  · have hr := hide (plZ_out (to_ := zs) (s := s) (.inl h0))
    go_enter Try.func21, Try.ntmps21
    go_wp2_with fail
    go_ret
    exact ⟨ret_int hr.out.symm, rfl⟩
  · by_cases h1 : (n : Int) ≤ s
    · have hr := hide (plZ_out (to_ := zs) (s := s) (.inr (by omega)))
      go_enter Try.func21, Try.ntmps21
      go_wp2_with fail
      go_ret
      exact ⟨ret_int hr.out.symm, rfl⟩
    · obtain ⟨k, rfl⟩ := Int.eq_ofNat_of_zero_le (show 0 ≤ s by omega)
      have hk : k < zs.length := by omega
      have hr := hide (plZ_in (to_ := zs) (s := (k : Int)) (by omega) (by simpa using hk))
      obtain ⟨b, off, rfl, -, hc⟩ := int_at h.out.see hk
      have hr2 := hide (show plZ zs (k : Int) = zs[k] from hr.out)
      generalize zs[k] = y at hc hr2
      have hk0 : (0 : Int) ≤ (k : Int) := by omega
      have hk1 : (k : Int) < (n : Int) := by omega
      clear hr h1 hn hk
      go_enter Try.func21, Try.ntmps21
      go_wp2_with fail
      go_ret
      exact ⟨ret_int hr2.out.symm, rfl⟩

/-- The two boxes of Renamed: the instruction, the result. -/
structure RnB (w W : World) (o a b c m : Int) (l : List Value) : Prop where
  i : Row W w.heap.size 24 [.int .i64 o, .int .i64 a, .int .i64 b, .int .i64 c, .int .u64 m]
  r : Row W (w.heap.size + 1) 24 l
  b : Below w.heap.size w W
theorem RnB.setA {w W : World} {o a b c m : Int} {l : List Value} (h : RnB w W o a b c m l) (x : Int) : RnB w (W.setCell ⟨w.heap.size, 1, none⟩ (.int .i64 x)) o x b c m l := ⟨h.i.set_ 1 _, h.r.far (p := ⟨w.heap.size, 1, none⟩) (by simp) _, h.b.setCell (p := ⟨w.heap.size, 1, none⟩) (Nat.le_refl _) _⟩
theorem RnB.setB {w W : World} {o a b c m : Int} {l : List Value} (h : RnB w W o a b c m l) (x : Int) : RnB w (W.setCell ⟨w.heap.size, 2, none⟩ (.int .i64 x)) o a x c m l := ⟨h.i.set_ 2 _, h.r.far (p := ⟨w.heap.size, 2, none⟩) (by simp) _, h.b.setCell (p := ⟨w.heap.size, 2, none⟩) (Nat.le_refl _) _⟩
theorem RnB.drewN {w W : World} {o a b c m : Int} {l : List Value} (h : RnB w W o a b c m l) (k : Nat) : RnB w (W.drewN k) o a b c m l := ⟨h.i.drewN k, h.r.drewN k, drewN_below h.b k⟩
theorem RnB.fin {w W : World} {o a b c m : Int} {y0 y1 y2 y3 y4 : Value} (h : RnB w W o a b c m [y0, y1, y2, y3, y4]) : ∃ V, ((((W.setCell ⟨w.heap.size + 1, 0, none⟩ (.int .i64 o)).setCell ⟨w.heap.size + 1, 1, none⟩ (.int .i64 a)).setCell ⟨w.heap.size + 1, 2, none⟩ (.int .i64 b)).setCell ⟨w.heap.size + 1, 3, none⟩ (.int .i64 c)).setCell ⟨w.heap.size + 1, 4, none⟩ (.int .u64 m) = V ∧ Row V (w.heap.size + 1) 24 [.int .i64 o, .int .i64 a, .int .i64 b, .int .i64 c, .int .u64 m] ∧ Below w.heap.size w V :=
  ⟨_, rfl, ((((h.r.set_ 0 _).set_ 1 _).set_ 2 _).set_ 3 _).set_ 4 _, ((((h.b.setCell (p := ⟨w.heap.size + 1, 0, none⟩) (Nat.le_succ _) _).setCell (p := ⟨w.heap.size + 1, 1, none⟩) (Nat.le_succ _) _).setCell (p := ⟨w.heap.size + 1, 2, none⟩) (Nat.le_succ _) _).setCell (p := ⟨w.heap.size + 1, 3, none⟩) (Nat.le_succ _) _).setCell (p := ⟨w.heap.size + 1, 4, none⟩) (Nat.le_succ _) _⟩
/-- What Renamed hands back. -/
def RnPost (o a b c m : Int) (zs : List Int) (w : World) (e : Ending) (w' : World) : Prop := e = .returned (iv o (rnA o a zs) (rnB o b zs) c m) ∧ Below w.heap.size w w'
theorem rnA_on {o a : Int} {zs : List Int} (h : defB o = true) : rnA o a zs = plZ zs a := by unfold rnA; rw [if_pos h]
theorem rnA_off {o a : Int} {zs : List Int} (h : defB o = false) : rnA o a zs = a := by unfold rnA; rw [h]; rfl
theorem rnB_on {o b : Int} {zs : List Int} (h : useB o = true) : rnB o b zs = plZ zs b := by unfold rnB; rw [if_pos h]
theorem rnB_off {o b : Int} {zs : List Int} (h : useB o = false) : rnB o b zs = b := by unfold rnB; rw [h]; rfl
theorem RnB.start (w : World) (o a b c m : Int) : ∃ W, (w.alloc (.cells #[.int .i64 o, .int .i64 a, .int .i64 b, .int .i64 c, .int .u64 m] 24)).alloc (.cells #[.int .i64 0, .int .i64 0, .int .i64 0, .int .i64 0, .int .u64 0] 24) = W ∧ RnB w W o a b c m [.int .i64 0, .int .i64 0, .int .i64 0, .int .i64 0, .int .u64 0] := by
  obtain ⟨W, h1, h2, _, h4, h5⟩ := boxes2q w [.int .i64 o, .int .i64 a, .int .i64 b, .int .i64 c, .int .u64 m] [.int .i64 0, .int .i64 0, .int .i64 0, .int .i64 0, .int .u64 0] 24 24
  exact ⟨W, h1, h4, h5, h2⟩
set_option maxHeartbeats 2000000 in
theorem erenamed_any (o a b c m : Int) (A : Option Addr) (n cp : Nat) (zs : List Int) (w : World) (h : Hid (Lst w A n zs)) : Calls Try.prog 15 #[iv o a b c m, .slice A n cp] w (RnPost o a b c m zs w) := by
  obtain ⟨W, hW, hb⟩ := RnB.start w o a b c m
  have HW := hide hW
  have cw := fun W => ewrites_any o W
  have cu := fun W => ereads_any o W
  have cp1 := fun W (hB : Below w.heap.size w W) => eplace_any A n cp zs a W (hide (h.out.below hB))
  have cp2 := fun W (hB : Below w.heap.size w W) => eplace_any A n cp zs b W (hide (h.out.below hB))
  have CP1 := hide cp1
  have CP2 := hide cp2
  have HA := hide (@rnA_on o a zs)
  have HA' := hide (@rnA_off o a zs)
  have HB := hide (@rnB_on o b zs)
  have HB' := hide (@rnB_off o b zs)
  have hs : w.heap.size + 1 ≠ w.heap.size := by omega
  unfold RnPost
  generalize rnA o a zs = a' at HA HA' ⊢
  generalize rnB o b zs = b' at HB HB' ⊢
  generalize plZ zs a = pa at CP1 HA
  generalize plZ zs b = pb at CP2 HB
  generalize hD : defB o = D at cw HA HA'
  generalize hU : useB o = U at cu HB HB'
  clear hW hD hU cp1 cp2 h
  have H0 := hide hb
  have x0 := hb.i.cell (k := 0) rfl
  have x1 := hb.i.cell (k := 1) rfl
  have x2 := hb.i.cell (k := 2) rfl
  have f1 := hb.i.free 1
  have f2 := hb.i.free 2
  clear hb
  go_enter Try.func15, Try.ntmps15
  go_upto_region 1 with (fail)
  rw [HW.out]
  clear HW
  have key : ∃ V, RnB w V o a' b c m [.int .i64 0, .int .i64 0, .int .i64 0, .int .i64 0, .int .u64 0] ∧ (D = true → V = W.setCell ⟨w.heap.size, 1, none⟩ (.int .i64 a')) ∧ (D = false → V = W) := by
    cases D with
    | true => exact ⟨_, by rw [HA.out rfl]; exact H0.out.setA pa, fun _ => by rw [HA.out rfl], fun e => (by cases e)⟩
    | false => exact ⟨W, by rw [HA'.out rfl]; exact H0.out, fun e => (by cases e), fun _ => rfl⟩
  obtain ⟨V, hV, hV1, hV2⟩ := key
  have HV := hide hV
  have key2 : ∃ V2, RnB w V2 o a' b' c m [.int .i64 0, .int .i64 0, .int .i64 0, .int .i64 0, .int .u64 0] ∧ (U = true → V2 = V.setCell ⟨w.heap.size, 2, none⟩ (.int .i64 b')) ∧ (U = false → V2 = V) := by
    cases U with
    | true => exact ⟨_, by rw [HB.out rfl]; exact hV.setB pb, fun _ => by rw [HB.out rfl], fun e => (by cases e)⟩
    | false => exact ⟨V, by rw [HB'.out rfl]; exact hV, fun e => (by cases e), fun _ => rfl⟩
  obtain ⟨V2, hV2b, hU1, hU2⟩ := key2
  have HV2 := hide hV2b
  obtain ⟨V3, hV3, hR3, hB3⟩ := hV2b.fin
  have HV3 := hide hV3
  have HR3 := hide hR3
  have HB3 := hide hB3
  have K1 := hide hV1
  have K2 := hide hV2
  have L1 := hide hU1
  have L2 := hide hU2
  clear hV hV1 hV2 hV2b hU1 hU2 hV3 hR3 hB3
  have fin : ∀ (tmps : Array Value), True := fun _ => trivial
  clear fin
  have tailU : True := trivial
  clear tailU
  cases D with
  | true =>
    have e1 := hide (HA.out rfl)
    go_wp2_with fail
    refine (cw _).mono ?_
    rintro e w1 ⟨rfl, rfl⟩
    go_wp2_with fail
    refine (CP1.out _ H0.out.b).mono ?_
    rintro e w1 ⟨rfl, rfl⟩
    rw [← e1.out]
    go_upto_region 3 with (fail)
    rw [← K1.out (by trivial)]
    clear x0 x1 x2 f1 f2
    have x0 := HV.out.i.cell (k := 0) rfl
    have x2 := HV.out.i.cell (k := 2) rfl
    have f2 := HV.out.i.free 2
    cases U with
    | true =>
      have e2 := hide (HB.out (by trivial))
      go_wp2_with fail
      refine (cu _).mono ?_
      rintro e w1 ⟨rfl, rfl⟩
      go_wp2_with fail
      refine (CP2.out _ HV.out.b).mono ?_
      rintro e w1 ⟨rfl, rfl⟩
      rw [← e2.out]
      go_upto_region 5 with (fail)
      rw [← L1.out (by trivial)]
      clear x0 x2 f2
      have x0 := HV2.out.i.cell (k := 0) rfl
      have x1 := HV2.out.i.cell (k := 1) rfl
      have x2 := HV2.out.i.cell (k := 2) rfl
      have x3 := HV2.out.i.cell (k := 3) rfl
      have x4 := HV2.out.i.cell (k := 4) rfl
      have y0 := HV2.out.r.cell (k := 0) rfl
      have y1 := HV2.out.r.cell (k := 1) rfl
      have y2 := HV2.out.r.cell (k := 2) rfl
      have y3 := HV2.out.r.cell (k := 3) rfl
      have y4 := HV2.out.r.cell (k := 4) rfl
      have g0 := HV2.out.r.free 0
      have g1 := HV2.out.r.free 1
      have g2 := HV2.out.r.free 2
      have g3 := HV2.out.r.free 3
      have g4 := HV2.out.r.free 4
      go_wp2_with fail
      rw [HV3.out]
      have z0 := HR3.out.cell (k := 0) rfl
      have z1 := HR3.out.cell (k := 1) rfl
      have z2 := HR3.out.cell (k := 2) rfl
      have z3 := HR3.out.cell (k := 3) rfl
      have z4 := HR3.out.cell (k := 4) rfl
      exact bodyPost_ret (v := iv o a' b' c m) (by simp [results, Try.results15, go_sem, z0, z1, z2, z3, z4]) rfl ⟨rfl, HB3.out⟩
    | false =>
      have e2 := HB'.out (by trivial)
      subst e2
      go_wp2_with fail
      refine (cu _).mono ?_
      rintro e w1 ⟨rfl, rfl⟩
      rw [← L2.out (by trivial)]
      clear x0 x2 f2
      have x0 := HV2.out.i.cell (k := 0) rfl
      have x1 := HV2.out.i.cell (k := 1) rfl
      have x2 := HV2.out.i.cell (k := 2) rfl
      have x3 := HV2.out.i.cell (k := 3) rfl
      have x4 := HV2.out.i.cell (k := 4) rfl
      have y0 := HV2.out.r.cell (k := 0) rfl
      have y1 := HV2.out.r.cell (k := 1) rfl
      have y2 := HV2.out.r.cell (k := 2) rfl
      have y3 := HV2.out.r.cell (k := 3) rfl
      have y4 := HV2.out.r.cell (k := 4) rfl
      have g0 := HV2.out.r.free 0
      have g1 := HV2.out.r.free 1
      have g2 := HV2.out.r.free 2
      have g3 := HV2.out.r.free 3
      have g4 := HV2.out.r.free 4
      go_wp2_with fail
      rw [HV3.out]
      have z0 := HR3.out.cell (k := 0) rfl
      have z1 := HR3.out.cell (k := 1) rfl
      have z2 := HR3.out.cell (k := 2) rfl
      have z3 := HR3.out.cell (k := 3) rfl
      have z4 := HR3.out.cell (k := 4) rfl
      exact bodyPost_ret (v := iv o a' b' c m) (by simp [results, Try.results15, go_sem, z0, z1, z2, z3, z4]) rfl ⟨rfl, HB3.out⟩
  | false =>
    have e1 := HA'.out rfl
    subst e1
    go_wp2_with fail
    refine (cw _).mono ?_
    rintro e w1 ⟨rfl, rfl⟩
    rw [← K2.out (by trivial)]
    clear x0 x1 x2 f1 f2
    have x0 := HV.out.i.cell (k := 0) rfl
    have x2 := HV.out.i.cell (k := 2) rfl
    have f2 := HV.out.i.free 2
    cases U with
    | true =>
      have e2 := hide (HB.out (by trivial))
      go_wp2_with fail
      refine (cu _).mono ?_
      rintro e w1 ⟨rfl, rfl⟩
      go_wp2_with fail
      refine (CP2.out _ HV.out.b).mono ?_
      rintro e w1 ⟨rfl, rfl⟩
      rw [← e2.out]
      go_upto_region 5 with (fail)
      rw [← L1.out (by trivial)]
      clear x0 x2 f2
      have x0 := HV2.out.i.cell (k := 0) rfl
      have x1 := HV2.out.i.cell (k := 1) rfl
      have x2 := HV2.out.i.cell (k := 2) rfl
      have x3 := HV2.out.i.cell (k := 3) rfl
      have x4 := HV2.out.i.cell (k := 4) rfl
      have y0 := HV2.out.r.cell (k := 0) rfl
      have y1 := HV2.out.r.cell (k := 1) rfl
      have y2 := HV2.out.r.cell (k := 2) rfl
      have y3 := HV2.out.r.cell (k := 3) rfl
      have y4 := HV2.out.r.cell (k := 4) rfl
      have g0 := HV2.out.r.free 0
      have g1 := HV2.out.r.free 1
      have g2 := HV2.out.r.free 2
      have g3 := HV2.out.r.free 3
      have g4 := HV2.out.r.free 4
      go_wp2_with fail
      rw [HV3.out]
      have z0 := HR3.out.cell (k := 0) rfl
      have z1 := HR3.out.cell (k := 1) rfl
      have z2 := HR3.out.cell (k := 2) rfl
      have z3 := HR3.out.cell (k := 3) rfl
      have z4 := HR3.out.cell (k := 4) rfl
      exact bodyPost_ret (v := iv o a' b' c m) (by simp [results, Try.results15, go_sem, z0, z1, z2, z3, z4]) rfl ⟨rfl, HB3.out⟩
    | false =>
      have e2 := HB'.out (by trivial)
      subst e2
      go_wp2_with fail
      refine (cu _).mono ?_
      rintro e w1 ⟨rfl, rfl⟩
      rw [← L2.out (by trivial)]
      clear x0 x2 f2
      have x0 := HV2.out.i.cell (k := 0) rfl
      have x1 := HV2.out.i.cell (k := 1) rfl
      have x2 := HV2.out.i.cell (k := 2) rfl
      have x3 := HV2.out.i.cell (k := 3) rfl
      have x4 := HV2.out.i.cell (k := 4) rfl
      have y0 := HV2.out.r.cell (k := 0) rfl
      have y1 := HV2.out.r.cell (k := 1) rfl
      have y2 := HV2.out.r.cell (k := 2) rfl
      have y3 := HV2.out.r.cell (k := 3) rfl
      have y4 := HV2.out.r.cell (k := 4) rfl
      have g0 := HV2.out.r.free 0
      have g1 := HV2.out.r.free 1
      have g2 := HV2.out.r.free 2
      have g3 := HV2.out.r.free 3
      have g4 := HV2.out.r.free 4
      go_wp2_with fail
      rw [HV3.out]
      have z0 := HR3.out.cell (k := 0) rfl
      have z1 := HR3.out.cell (k := 1) rfl
      have z2 := HR3.out.cell (k := 2) rfl
      have z3 := HR3.out.cell (k := 3) rfl
      have z4 := HR3.out.cell (k := 4) rfl
      exact bodyPost_ret (v := iv o a' b' c m) (by simp [results, Try.results15, go_sem, z0, z1, z2, z3, z4]) rfl ⟨rfl, HB3.out⟩
end Go.Proofs.Ythaabgiefpfeaaa
end
