import Derived.Test.YthaabgiefpfeaaaMHrrn
import Derived.Test.YthaabgiefpfeaaaMHins
import Derived.Test.YthaabgiefpfeaaaMPeqi
import Derived.Deep.RegionHeld3
import Derived.Deep.DeepCutAuto
import Derived.Outline
set_option linter.unusedVariables false
set_option linter.unusedSimpArgs false
section
/-
  The walk of the law EffectRenamed: for all instructions, lists and codes it returns true, and what was in memory before the call is as it was. Conditions: those of the types.
-/
namespace Go.Proofs.Ythaabgiefpfeaaa
open Go.RowKit

/-- The five cells of an instruction's box, behind calls. -/
theorem cells5r {W W' : World} {g : Nat} {o a b c m : Int} (R : Row W g 24 [.int .i64 o, .int .i64 a, .int .i64 b, .int .i64 c, .int .u64 m]) (hb : Below W.heap.size W W') : W'.cell? ⟨g, 0, none⟩ = some (.int .i64 o) ∧ W'.cell? ⟨g, 1, none⟩ = some (.int .i64 a) ∧ W'.cell? ⟨g, 2, none⟩ = some (.int .i64 b) ∧ W'.cell? ⟨g, 3, none⟩ = some (.int .i64 c) ∧ W'.cell? ⟨g, 4, none⟩ = some (.int .u64 m) :=
  ⟨(R.call hb).cell (k := 0) rfl, (R.call hb).cell (k := 1) rfl, (R.call hb).cell (k := 2) rfl, (R.call hb).cell (k := 3) rfl, (R.call hb).cell (k := 4) rfl⟩
theorem lst_none (w : World) : Lst w none 0 [] := ⟨rfl, by omega, Sees.nil_ _ _ _, fun z h => by cases h⟩
theorem lst_nine {w W : World} (h : w.alloc (.cells #[.int .i64 0, .int .i64 1, .int .i64 2, .int .i64 3, .int .i64 4, .int .i64 5, .int .i64 6, .int .i64 7, .int .i64 8] 3) = W) : Lst W (some ⟨w.heap.size, 0, none⟩) 9 [0, 1, 2, 3, 4, 5, 6, 7, 8] := by
  subst h
  refine ⟨rfl, by omega, fun k v hv => ⟨w.heap.size, 0, rfl, by simp, ?_⟩, fun z hz => ?_⟩
  · rw [Nat.zero_add]; exact (Row.new w 3 [.int .i64 0, .int .i64 1, .int .i64 2, .int .i64 3, .int .i64 4, .int .i64 5, .int .i64 6, .int .i64 7, .int .i64 8]).cell hv
  · simp at hz; omega

set_option maxRecDepth 100000 in
set_option maxHeartbeats 4000000 in
theorem renlaw_walk (o a b c m u : Int) (At : Option Addr) (nt ct : Nat) (ts : List Int) (A : Option Addr) (n cp : Nat) (zs : List Int) (w : World) (hu : 0 ≤ u ∧ u ≤ 255) (hL : Hid (Lst w At nt ts)) (hA : Hid (A = none → cp = 0)) (hn : Hid (zs.length = n)) (hnc : n ≤ cp) (hm : n ≤ 9223372036854775807) (hs : Hid (Sees w w.heap.size A (cellsU8 zs))) (hz : Hid (∀ z ∈ zs, 0 ≤ z ∧ z ≤ 255)) :
    Calls Try.prog 4 #[iv o a b c m, .int .u8 u, .slice At nt ct, .slice A n cp] w fun e w' => e = .returned (.bool true) ∧ Below w.heap.size w w' := by
  obtain ⟨W1, hW1, hR1, hB1⟩ := ibox w o a b c m
  have HW1 := hide hW1
  have HB1 := hide hB1
  have R1 := hide hR1
  have ca := awake15_any W1
  have hu0 := hu.1
  have hu1 := hu.2
  clear hW1 hR1 hB1
  by_cases hlong : 600 < nt
  · have hd : decide ((nt : Int) > 600) = true := decide_eq_true (by omega)
    have hlong' : (600 : Int) < (nt : Int) := by omega
    go_enter Try.func4, Try.ntmps4
    go_upto_region 1 with (fail)
    rw [HW1.out]
    clear HW1
    go_wp2_with fail
    refine ca.mono ?_
    rintro e W3 ⟨rfl, hb3⟩
    have HB3 := hide (below_call HB1.out hb3)
    clear hb3
    go_wp2_with fail
    go_ret
    exact ⟨rfl, HB3.out⟩
  have hd : decide ((600 : Int) < (nt : Int)) = false := decide_eq_false (by omega)
  clear hlong
  go_enter Try.func4, Try.ntmps4
  go_upto_region 1 with (fail)
  rw [HW1.out]
  clear HW1
  go_wp2_with fail
  refine ca.mono ?_
  rintro e W3 ⟨rfl, hb3⟩
  have Q3 := hide (R1.out.call hb3)
  have HB3 := hide (below_call HB1.out hb3)
  obtain ⟨q0, q1, q2, q3, q4⟩ := cells5r R1.out hb3
  clear hb3 ca R1 HB1
  go_upto_region 5 with (fail)
  obtain ⟨W4, hW4⟩ : ∃ V, W3.alloc (.cells #[.int .i64 (u % 25), .int .i64 a, .int .i64 b, .int .i64 c, .int .u64 m] 24) = V := ⟨_, rfl⟩
  have Q4 := hide (show Row W4 w.heap.size 24 [.int .i64 o, .int .i64 a, .int .i64 b, .int .i64 c, .int .u64 m] by rw [← hW4]; exact Q3.out.alloc _)
  have Y4 := hide (show Row W4 W3.heap.size 24 [.int .i64 (u % 25), .int .i64 a, .int .i64 b, .int .i64 c, .int .u64 m] by rw [← hW4]; exact Row.new W3 _ _)
  have HB4 := hide (show Below w.heap.size w W4 by rw [← hW4]; exact HB3.out.alloc HB3.out.size _)
  obtain ⟨gy, hgy⟩ : ∃ q, W3.heap.size = q := ⟨_, rfl⟩
  rw [hW4]
  rw [hgy] at Y4 ⊢
  have hgyl : gy < W4.heap.size := Y4.out.lt
  have hgxl : w.heap.size < W4.heap.size := Q4.out.lt
  clear hW4 hgy q0 q1 q2 q3 q4 Q3 HB3
  go_wp2_with fail
  refine (new_any A n cp zs 20 W4 hA hn hnc hm (by omega) (hide ((hs.out.below HB4.out).more HB4.out.size)) hz).mono ?_
  rintro e w5 ⟨rfl, hC5, hb5⟩
  obtain ⟨g, hg⟩ : ∃ g, W4.heap.size = g := ⟨_, rfl⟩
  rw [hg] at hC5 ⊢
  have HC5 := hide hC5
  have Q5 := hide (Q4.out.call hb5)
  have Y5 := hide (Y4.out.call hb5)
  have HB5 := hide (below_call HB4.out hb5)
  have hgw : w.heap.size < g := by omega
  have hgy5 : gy < g := by omega
  clear hC5 hb5 Q4 Y4 HB4 hg hgyl hgxl
  go_wp2_with fail
  refine (instr15_any g w5 HC5).mono ?_
  rintro e w6 ⟨o2, a2, b2, rfl, -, -, -, hC6, hG6⟩
  have hne : ∀ k, k < g → some k ≠ some g := fun k hk e => by injection e with e; omega
  obtain ⟨W6, hW6⟩ : ∃ V, w6.alloc (.cells #[.int .i64 o2, .int .i64 a2, .int .i64 b2, .int .i64 0, .int .u64 0] 24) = V := ⟨_, rfl⟩
  have Q6 := hide (show Row W6 w.heap.size 24 [.int .i64 o, .int .i64 a, .int .i64 b, .int .i64 c, .int .u64 m] by rw [← hW6]; exact (Q5.out.grown hG6 (hne _ hgw)).alloc _)
  have Y6 := hide (show Row W6 gy 24 [.int .i64 (u % 25), .int .i64 a, .int .i64 b, .int .i64 c, .int .u64 m] by rw [← hW6]; exact (Y5.out.grown hG6 (hne _ hgy5)).alloc _)
  have Z6 := hide (show Row W6 w6.heap.size 24 [.int .i64 o2, .int .i64 a2, .int .i64 b2, .int .i64 0, .int .u64 0] by rw [← hW6]; exact Row.new w6 _ _)
  have hB6 : Below w.heap.size w w6 := below_grown HB5.out hG6 (by omega) HB5.out.size
  have HB6 := hide (show Below w.heap.size w W6 by rw [← hW6]; exact hB6.alloc hB6.size _)
  obtain ⟨gz, hgz⟩ : ∃ q, w6.heap.size = q := ⟨_, rfl⟩
  have HW6 := hide hW6
  clear hW6 hB6 hC6 hG6 hne
  go_upto_region 6 with (fail)
  try rw [HW6.out]
  rw [hgz] at Z6
  try rw [hgz]
  clear HW6 hgz Q5 Y5 HB5 HC5
  go_upto_region 7 with (fail)
  obtain ⟨W7, hW7⟩ : ∃ V, W6.alloc (.cells #[.int .i64 0, .int .i64 1, .int .i64 2, .int .i64 3, .int .i64 4, .int .i64 5, .int .i64 6, .int .i64 7, .int .i64 8] 3) = V := ⟨_, rfl⟩
  have HI7 := hide (lst_nine hW7)
  have hb7 : Below W6.heap.size W6 W7 := by rw [← hW7]; exact below1 _ _
  have Q7 := hide (Q6.out.call hb7)
  have Y7 := hide (Y6.out.call hb7)
  have Z7 := hide (Z6.out.call hb7)
  have HB7 := hide (below_call HB6.out hb7)
  obtain ⟨gi, hgi⟩ : ∃ q, W6.heap.size = q := ⟨_, rfl⟩
  rw [hW7]
  rw [hgi] at HI7 ⊢
  clear hW7 hgi hb7 Q6 Y6 Z6 HB6
  obtain ⟨q0, q1, q2, q3, q4⟩ := cells5r Q7.out (Below.refl _ W7)
  obtain ⟨y0, y1, y2, y3, y4⟩ := cells5r Y7.out (Below.refl _ W7)
  obtain ⟨p0, p1, p2, p3, p4⟩ := cells5r Z7.out (Below.refl _ W7)
  go_wp2_with fail
  obtain ⟨W8, hW8⟩ : ∃ V, W7.alloc (.cells #[.int .i64 o, .int .i64 a, .int .i64 b, .int .i64 c, .int .u64 m, .int .i64 (u % 25), .int .i64 a, .int .i64 b, .int .i64 c, .int .u64 m, .int .i64 o2, .int .i64 a2, .int .i64 b2, .int .i64 0, .int .u64 0] 24) = V := ⟨_, rfl⟩
  have R8 := hide (show Row W8 W7.heap.size 24 [.int .i64 o, .int .i64 a, .int .i64 b, .int .i64 c, .int .u64 m, .int .i64 (u % 25), .int .i64 a, .int .i64 b, .int .i64 c, .int .u64 m, .int .i64 o2, .int .i64 a2, .int .i64 b2, .int .i64 0, .int .u64 0] by rw [← hW8]; exact Row.new W7 _ _)
  have hb8 : Below W7.heap.size W7 W8 := by rw [← hW8]; exact below1 _ _
  have HB8 := hide (below_call HB7.out hb8)
  have HI8 := hide (HI7.out.below hb8)
  have HL8 := hide (hL.out.below HB8.out)
  rw [hW8]
  obtain ⟨gr, hgr⟩ : ∃ g, W7.heap.size = g := ⟨_, rfl⟩
  rw [hgr] at R8 ⊢
  clear hW8 hgr hb8 Q7 Y7 Z7 HB7 HI7 q0 q1 q2 q3 q4 y0 y1 y2 y3 y4 p0 p1 p2 p3 p4
  go_loopw [38] (fun i wr => ∃ k : Nat, k ≤ 3 ∧ i = .int .i64 k ∧ Hid (Below W8.heap.size W8 wr)) (fun i _ => 3 - (intOf i).toNat)
  case atStart => exact ⟨0, by omega, rfl, hide (Below.refl _ _)⟩
  case round =>
    obtain ⟨k, hk, rfl, hb⟩ := hrel
    by_cases hlt : k < 3
    · have hkz : (0 : Int) ≤ (k : Int) := by omega
      have hkz' : (k : Int) < 3 := by omega
      have hv : ∃ e0 e1 e2 e3 e4 : Int, Hid (∀ j v, [Value.int .i64 e0, .int .i64 e1, .int .i64 e2, .int .i64 e3, .int .u64 e4][j]? = some v → wr.cell? ⟨gr, k * 5 + j, none⟩ = some v) := by
        have Z := R8.out.call hb.out
        rcases (show k = 0 ∨ k = 1 ∨ k = 2 by omega) with rfl | rfl | rfl
        · exact ⟨o, a, b, c, m, hide fun j v hj => Z.cell (by
            rcases j with _ | _ | _ | _ | _ | j <;> simp at hj ⊢ <;> exact hj)⟩
        · exact ⟨u % 25, a, b, c, m, hide fun j v hj => Z.cell (by
            rcases j with _ | _ | _ | _ | _ | j <;> simp at hj ⊢ <;> exact hj)⟩
        · exact ⟨o2, a2, b2, 0, 0, hide fun j v hj => Z.cell (by
            rcases j with _ | _ | _ | _ | _ | j <;> simp at hj ⊢ <;> exact hj)⟩
      obtain ⟨e0, e1, e2, e3, e4, hz⟩ := hv
      have z0 := hz.out 0 _ rfl
      have z1 := hz.out 1 _ rfl
      have z2 := hz.out 2 _ rfl
      have z3 := hz.out 3 _ rfl
      have z4 := hz.out 4 _ rfl
      rw [Nat.add_zero] at z0
      have HB9 := hide (HB8.out.trans (hb.out.mono HB8.out.size))
      have HL9 := hide (HL8.out.below hb.out)
      have HI9 := hide (HI8.out.below hb.out)
      clear hz
      go_upto_region 10 with (fail)
      obtain ⟨X0, hX0⟩ : ∃ V, wr.alloc (.cells #[.int .i64 e0, .int .i64 e1, .int .i64 e2, .int .i64 e3, .int .u64 e4] 24) = V := ⟨_, rfl⟩
      have Z0 := hide (show Row X0 wr.heap.size 24 [.int .i64 e0, .int .i64 e1, .int .i64 e2, .int .i64 e3, .int .u64 e4] by rw [← hX0]; exact Row.new wr _ _)
      have hx0 : Below wr.heap.size wr X0 := by rw [← hX0]; exact below1 _ _
      have HX0 := hide hx0
      have HL0 := hide (HL9.out.below hx0)
      have HI0 := hide (HI9.out.below hx0)
      rw [hX0]
      obtain ⟨gq, hgq⟩ : ∃ g, wr.heap.size = g := ⟨_, rfl⟩
      rw [hgq] at Z0 ⊢
      have HGQ := hide hgq
      have hgl : gq < X0.heap.size := Z0.out.lt
      clear hX0 hx0 hgq z0 z1 z2 z3 z4 HL9 HI9
      have c1 := fun V (hb : Below X0.heap.size X0 V) => erenamed_any e0 e1 e2 e3 e4 At nt ct ts V (hide (HL0.out.below hb))
      have c2 := fun V (hb : Below X0.heap.size X0 V) => rrenamed15_any e0 e1 e2 e3 e4 At nt ct ts V (hide (HL0.out.below hb))
      have c3 := fun V (_ : Below X0.heap.size X0 V) => erenamed_any e0 e1 e2 e3 e4 none 0 0 [] V (hide (lst_none V))
      have c4 := fun V (hb : Below X0.heap.size X0 V) => erenamed_any e0 e1 e2 e3 e4 (some ⟨gi, 0, none⟩) 9 9 [0, 1, 2, 3, 4, 5, 6, 7, 8] V (hide (HI0.out.below hb))
      unfold RnPost at c1 c2 c3 c4
      rw [rnA_nil, rnB_nil] at c3
      rw [rnA_same, rnB_same] at c4
      generalize rnA e0 e1 ts = ra at c1 c2
      generalize rnB e0 e2 ts = rb at c1 c2
      have C1 := hide c1
      have C2 := hide c2
      have C3 := hide c3
      have C4 := hide c4
      clear c1 c2 c3 c4 HL0 HI0
      have n1 : ∀ w, (binOp .neq 24 (iv e0 ra rb e3 e4) (iv e0 ra rb e3 e4)).run Try.prog w = .ok (.bool false) w := fun w => by rw [run_ne_instr]; simp
      have n2 : ∀ w, (binOp .neq 24 (iv e0 e1 e2 e3 e4) (iv e0 e1 e2 e3 e4)).run Try.prog w = .ok (.bool false) w := fun w => by rw [run_ne_instr]; simp
      obtain ⟨z0, z1, z2, z3, z4⟩ := cells5r Z0.out (Below.refl _ X0)
      go_region_held3 (fun w' => w'.cell? ⟨gq, 0, none⟩ = some (.int .i64 e0) ∧ w'.cell? ⟨gq, 1, none⟩ = some (.int .i64 e1) ∧ w'.cell? ⟨gq, 2, none⟩ = some (.int .i64 e2) ∧ w'.cell? ⟨gq, 3, none⟩ = some (.int .i64 e3) ∧ w'.cell? ⟨gq, 4, none⟩ = some (.int .u64 e4))
        (first | go_keep | exact m7 | exact m6 | exact m5 | exact m4)
        (first
          | (go_at_call 15; refine (C4.out _ h6.out).mono ?_; rintro e w7 ⟨rfl, hb7⟩; have h7 := hide (below_call h6.out hb7); have m7 := cells5r Z0.out h7.out)
          | (go_at_call 15; refine (C3.out _ h5.out).mono ?_; rintro e w6 ⟨rfl, hb6⟩; have h6 := hide (below_call h5.out hb6); have m6 := cells5r Z0.out h6.out)
          | (go_at_call 16; refine (C2.out _ h4.out).mono ?_; rintro e w5 ⟨rfl, hb5⟩; have h5 := hide (below_call h4.out hb5); have m5 := cells5r Z0.out h5.out)
          | (go_at_call 15; refine (C1.out _ (Below.refl _ _).drew).mono ?_; rintro e w4 ⟨rfl, hb4⟩; have h4 := hide (below_call (Below.refl _ X0).drew hb4); have m4 := cells5r Z0.out h4.out))
      go_wp2_with fail
      go_roundw
      case rel => exact ⟨k + 1, by omega, by go_num, hide (hb.out.trans ((HX0.out.trans (h7.out.mono HX0.out.size)).mono hb.out.size))⟩
      case measure => simp [intOf]; omega
    · obtain rfl : k = 3 := by omega
      go_wp2_with fail
      go_ret
      exact ⟨rfl, HB8.out.trans (hb.out.mono HB8.out.size)⟩
end Go.Proofs.Ythaabgiefpfeaaa
end
