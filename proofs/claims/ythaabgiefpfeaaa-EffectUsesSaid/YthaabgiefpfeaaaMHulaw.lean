import Derived.Test.YthaabgiefpfeaaaMHref
import Derived.Test.YthaabgiefpfeaaaMBx
import Derived.Test.YthaabgiefpfeaaaMLsam
import Derived.Test.YthaabgiefpfeaaaMBrf
import Derived.Deep.RegionHeld3
import Derived.Deep.DeepCutAuto
import Derived.Outline
set_option linter.unusedVariables false
set_option linter.unusedSimpArgs false
section
/-
  The contract of effect.Removable; the walk of the law EffectUses: for all instructions it returns true, and what was in memory before the call is as it was. Conditions: those of the types.
-/
namespace Go.Proofs.Ythaabgiefpfeaaa
open Go.RowKit

set_option maxHeartbeats 1000000 in
theorem eremovable_any (o a b c m : Int) (w : World) : Calls Try.prog 11 #[iv o a b c m] w fun e w' => e = .returned (.bool (defB o)) ∧ Below w.heap.size w w' := by
  obtain ⟨W, hW, hR, hB⟩ := ibox w o a b c m
  have HW := hide hW
  have HB := hide hB
  have x0 := hR.cell (k := 0) rfl
  have cr := ewrites_any o W
  generalize defB o = D at cr ⊢
  clear hW hR hB
  go_enter Try.func11, Try.ntmps11
  go_upto_region 1 with (fail)
  rw [HW.out]
  clear HW
  go_wp2_with fail
  refine cr.mono ?_
  rintro e w' ⟨rfl, rfl⟩
  go_wp2_with fail
  go_ret
  exact ⟨rfl, HB.out⟩
theorem OutPost.openN {r : List Int} {w w' : World} {e : Ending} (h : OutPost r w e w') (hl : r.length ≤ 1000) (hr : ∀ z ∈ r, -9223372036854775808 ≤ z ∧ z ≤ 9223372036854775807) : ∃ A c, e = .returned (.slice A r.length c) ∧ Hid (Lst w' A r.length r) ∧ Below w.heap.size w w' := by
  obtain ⟨A, c, rfl, hL⟩ := h.rel
  exact ⟨A, c, rfl, hide (hL.lst (by omega) hr), hL.2⟩
theorem usL_len (o b : Int) : (usL o b).length ≤ 1000 := by unfold usL; split <;> simp
theorem usL_rng (o : Int) {b : Int} (h : -9223372036854775808 ≤ b ∧ b ≤ 9223372036854775807) : ∀ z ∈ usL o b, -9223372036854775808 ≤ z ∧ z ≤ 9223372036854775807 := by
  unfold usL
  split <;> simp <;> omega
/-- The five cells of an instruction's box, behind calls. -/
theorem cells5u {W W' : World} {g : Nat} {o a b c m : Int} (R : Row W g 24 [.int .i64 o, .int .i64 a, .int .i64 b, .int .i64 c, .int .u64 m]) (hb : Below W.heap.size W W') : W'.cell? ⟨g, 0, none⟩ = some (.int .i64 o) ∧ W'.cell? ⟨g, 1, none⟩ = some (.int .i64 a) ∧ W'.cell? ⟨g, 2, none⟩ = some (.int .i64 b) ∧ W'.cell? ⟨g, 3, none⟩ = some (.int .i64 c) ∧ W'.cell? ⟨g, 4, none⟩ = some (.int .u64 m) :=
  ⟨(R.call hb).cell (k := 0) rfl, (R.call hb).cell (k := 1) rfl, (R.call hb).cell (k := 2) rfl, (R.call hb).cell (k := 3) rfl, (R.call hb).cell (k := 4) rfl⟩

set_option maxRecDepth 100000 in
set_option maxHeartbeats 2000000 in
theorem useslaw_walk (o a b c m u : Int) (w : World) (hu : 0 ≤ u ∧ u ≤ 255) (hb : -9223372036854775808 ≤ b ∧ b ≤ 9223372036854775807) :
    Calls Try.prog 3 #[iv o a b c m, .int .u8 u] w fun e w' => e = .returned (.bool true) ∧ Below w.heap.size w w' := by
  obtain ⟨W1, hW1, hR1, hB1⟩ := ibox w o a b c m
  have HW1 := hide hW1
  have HB1 := hide hB1
  have R1 := hide hR1
  have ca := awake15_any W1
  have hu0 := hu.1
  have hu1 := hu.2
  have HB := hide hb
  clear hW1 hR1 hB1 hb
  go_enter Try.func3, Try.ntmps3
  go_upto_region 1 with (fail)
  rw [HW1.out]
  clear HW1
  go_wp2_with fail
  refine ca.mono ?_
  rintro e W3 ⟨rfl, hb3⟩
  have Q3 := hide (R1.out.call hb3)
  have HB3 := hide (below_call HB1.out hb3)
  obtain ⟨q0, q1, q2, q3, q4⟩ := cells5u R1.out hb3
  clear hb3 ca R1 HB1
  go_upto_region 5 with (fail)
  obtain ⟨W4, hW4⟩ : ∃ V, W3.alloc (.cells #[.int .i64 (u % 25), .int .i64 a, .int .i64 b, .int .i64 c, .int .u64 m] 24) = V := ⟨_, rfl⟩
  have Q4 := hide (show Row W4 w.heap.size 24 [.int .i64 o, .int .i64 a, .int .i64 b, .int .i64 c, .int .u64 m] by rw [← hW4]; exact Q3.out.alloc _)
  have Y4 := hide (show Row W4 W3.heap.size 24 [.int .i64 (u % 25), .int .i64 a, .int .i64 b, .int .i64 c, .int .u64 m] by rw [← hW4]; exact Row.new W3 _ _)
  have HB4 := hide (show Below w.heap.size w W4 by rw [← hW4]; exact HB3.out.alloc HB3.out.size _)
  rw [hW4]
  clear q0 q1 q2 q3 q4
  obtain ⟨q0, q1, q2, q3, q4⟩ := cells5u Q4.out (Below.refl _ W4)
  obtain ⟨y0, y1, y2, y3, y4⟩ := cells5u Y4.out (Below.refl _ W4)
  clear hW4 Q3 HB3
  go_wp2_with fail
  obtain ⟨W5, hW5⟩ : ∃ V, W4.alloc (.cells #[.int .i64 o, .int .i64 a, .int .i64 b, .int .i64 c, .int .u64 m, .int .i64 (u % 25), .int .i64 a, .int .i64 b, .int .i64 c, .int .u64 m] 24) = V := ⟨_, rfl⟩
  have Z5 := hide (show Row W5 W4.heap.size 24 [.int .i64 o, .int .i64 a, .int .i64 b, .int .i64 c, .int .u64 m, .int .i64 (u % 25), .int .i64 a, .int .i64 b, .int .i64 c, .int .u64 m] by rw [← hW5]; exact Row.new W4 _ _)
  have HB5 := hide (show Below w.heap.size w W5 by rw [← hW5]; exact HB4.out.alloc HB4.out.size _)
  have HS5 := hide (show W4.heap.size < W5.heap.size by rw [← hW5]; simp)
  rw [hW5]
  obtain ⟨g, hg⟩ : ∃ g, W4.heap.size = g := ⟨_, rfl⟩
  rw [hg] at Z5 HS5 ⊢
  clear hW5 hg Q4 Y4 q0 q1 q2 q3 q4 y0 y1 y2 y3 y4 HB4
  go_loopw [23] (fun i wr => ∃ k : Nat, k ≤ 2 ∧ i = .int .i64 k ∧ Hid (Below W5.heap.size W5 wr)) (fun i _ => 2 - (intOf i).toNat)
  case atStart => exact ⟨0, by omega, rfl, hide (Below.refl _ _)⟩
  case round =>
    obtain ⟨k, hk, rfl, hb⟩ := hrel
    by_cases hlt : k < 2
    · have hkz : (0 : Int) ≤ (k : Int) := by omega
      have hkz' : (k : Int) < 2 := by omega
      have hv : ∃ z, Hid (∀ j v, [Value.int .i64 z, .int .i64 a, .int .i64 b, .int .i64 c, .int .u64 m][j]? = some v → wr.cell? ⟨g, k * 5 + j, none⟩ = some v) := by
        have Z := Z5.out.call hb.out
        rcases (show k = 0 ∨ k = 1 by omega) with rfl | rfl
        · exact ⟨o, hide fun j v hj => Z.cell (by
            rcases j with _ | _ | _ | _ | _ | j <;> simp at hj ⊢ <;> exact hj)⟩
        · exact ⟨u % 25, hide fun j v hj => Z.cell (by
            rcases j with _ | _ | _ | _ | _ | j <;> simp at hj ⊢ <;> exact hj)⟩
      obtain ⟨z, hz⟩ := hv
      have z0 := hz.out 0 _ rfl
      have z1 := hz.out 1 _ rfl
      have z2 := hz.out 2 _ rfl
      have z3 := hz.out 3 _ rfl
      have z4 := hz.out 4 _ rfl
      rw [Nat.add_zero] at z0
      have HB6 := hide (HB5.out.trans (hb.out.mono HB5.out.size))
      clear hz
      go_upto_region 8 with (fail)
      obtain ⟨X0, hX0⟩ : ∃ V, wr.alloc (.cells #[.int .i64 z, .int .i64 a, .int .i64 b, .int .i64 c, .int .u64 m] 24) = V := ⟨_, rfl⟩
      have Z7 := hide (show Row X0 wr.heap.size 24 [.int .i64 z, .int .i64 a, .int .i64 b, .int .i64 c, .int .u64 m] by rw [← hX0]; exact Row.new wr _ _)
      have HB7 := hide (show Below wr.heap.size wr X0 by rw [← hX0]; exact below1 _ _)
      rw [hX0]
      obtain ⟨gz, hgz⟩ : ∃ g, wr.heap.size = g := ⟨_, rfl⟩
      rw [hgz] at Z7 HB7 ⊢
      have HGZ := hide hgz
      clear hX0 hgz z0 z1 z2 z3 z4
      have hgl : gz < X0.heap.size := Z7.out.lt
      have d1 := fun V => edefines_any z a b c m V
      have d2 := fun V => rdefines_any z a b c m V
      unfold DefPost at d1 d2
      have u1 := fun V => euses_any z a b c m V
      have u2 := fun V => ruses_any z a b c m V
      have r1 := fun V => eremovable_any z a b c m V
      have r2 := fun V => rremovable_any z a b c m V
      have HUL := hide (usL_len z b)
      have HUR := hide (usL_rng z HB.out)
      generalize dfI z a = da at d1 d2
      generalize usL z b = ul at u1 u2 HUL HUR
      generalize defB z = D at d1 d2 r1 r2
      have D1 := hide d1
      have D2 := hide d2
      have U1 := hide u1
      have U2 := hide u2
      have V1 := hide r1
      have V2 := hide r2
      have nD : (D != D) = false := by cases D <;> rfl
      clear d1 d2 u1 u2 r1 r2
      obtain ⟨z0, z1, z2, z3, z4⟩ := cells5u Z7.out (Below.refl _ X0)
      go_wp2_with fail
      refine (D1.out _).mono ?_
      rintro e X1 ⟨rfl, hx1⟩
      clear z0 z1 z2 z3 z4
      have H1 := hide hx1
      obtain ⟨z0, z1, z2, z3, z4⟩ := cells5u Z7.out hx1
      clear hx1
      go_wp2_with fail
      refine (D2.out _).mono ?_
      rintro e X2 ⟨rfl, hx2⟩
      clear z0 z1 z2 z3 z4
      have H2 := hide (below_call H1.out hx2)
      obtain ⟨z0, z1, z2, z3, z4⟩ := cells5u Z7.out H2.out
      clear hx2
      go_wp2_with fail
      go_region_held3 (fun w' => w'.cell? ⟨gz, 0, none⟩ = some (.int .i64 z) ∧ w'.cell? ⟨gz, 1, none⟩ = some (.int .i64 a) ∧ w'.cell? ⟨gz, 2, none⟩ = some (.int .i64 b) ∧ w'.cell? ⟨gz, 3, none⟩ = some (.int .i64 c) ∧ w'.cell? ⟨gz, 4, none⟩ = some (.int .u64 m))
        (first | go_keep | exact m7 | exact m6 | exact m5 | exact m4 | exact m3)
        (first
          | (go_at_call 9; refine (U1.out _).mono ?_; rintro e w3 hP3; obtain ⟨A3, c3, rfl, HL3, hb3⟩ := hP3.openN HUL.out HUR.out; clear hP3; have h3 := hide (below_call (below_call H2.out (Below.refl _ _).drew) hb3); have m3 := cells5u Z7.out h3.out)
          | (go_at_call 10; refine (U2.out _).mono ?_; rintro e w4 hP4; obtain ⟨A4, c4, rfl, HL4, hb4⟩ := hP4.openN HUL.out HUR.out; clear hP4; have h4 := hide (below_call h3.out hb4); have HL34 := hide (HL3.out.below hb4); have m4 := cells5u Z7.out h4.out)
          | (go_at_call 8; refine (s_same c3 c4 HL34 HL4 (hide (decide_eq_true rfl))).mono ?_; rintro e w5 ⟨rfl, hb5⟩; have h5 := hide (below_call h4.out hb5); have m5 := cells5u Z7.out h5.out)
          | (go_at_call 11; refine (V1.out _).mono ?_; rintro e w6 ⟨rfl, hb6⟩; have h6 := hide (below_call h5.out hb6); have m6 := cells5u Z7.out h6.out)
          | (go_at_call 12; refine (V2.out _).mono ?_; rintro e w7 ⟨rfl, hb7⟩; have h7 := hide (below_call h6.out hb7); have m7 := cells5u Z7.out h7.out))
      go_wp2_with fail
      go_roundw
      case rel => exact ⟨k + 1, by omega, by go_num, hide (hb.out.trans ((HB7.out.trans (h7.out.mono (by omega))).mono (by rw [← HGZ.out]; exact hb.out.size)))⟩
      case measure => simp [intOf]; omega
    · obtain rfl : k = 2 := by omega
      go_wp2_with fail
      go_ret
      exact ⟨rfl, HB5.out.trans (hb.out.mono HB5.out.size)⟩
end Go.Proofs.Ythaabgiefpfeaaa
end
