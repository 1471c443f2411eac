import Derived.Test.YtgcjckbndkddmaaDoorMGl
import Derived.Test.YtgcjckbndkddmaaDoorMGe
import Derived.RegionTactic
import Derived.Outline
import Derived.Deep.DeepCutAuto
import Derived.Laws.MakeOwn
set_option linter.unusedVariables false
set_option linter.unusedSimpArgs false
section
/-
  The developers' reader: operands, instr. Conditions: at most 2^20 bytes; the operation is one of the 25.
-/
namespace Go.Proofs.YtgcjckbndkddmaaDoor
open Go.RowKit

/-- How many of the operands A, B, C an operation uses. -/
def cntOf (op : Int) : Nat := if useC op then 3 else if useB op then 2 else if useA op then 1 else 0
theorem cnt_le (op : Int) : cntOf op ≤ 3 := by
  unfold cntOf
  split
  · omega
  · split
    · omega
    · split <;> omega
theorem ops25 {op : Int} (h0 : 0 ≤ op) (h1 : op < 25) : op = 0 ∨ op = 1 ∨ op = 2 ∨ op = 3 ∨ op = 4 ∨ op = 5 ∨ op = 6 ∨ op = 7 ∨ op = 8 ∨ op = 9 ∨ op = 10 ∨ op = 11 ∨ op = 12 ∨ op = 13 ∨ op = 14 ∨ op = 15 ∨ op = 16 ∨ op = 17 ∨ op = 18 ∨ op = 19 ∨ op = 20 ∨ op = 21 ∨ op = 22 ∨ op = 23 ∨ op = 24 := by omega
theorem cnt_uses {op : Int} (h0 : 0 ≤ op) (h1 : op < 25) : useA op = decide (0 < cntOf op) ∧ useB op = decide (1 < cntOf op) ∧ useC op = decide (2 < cntOf op) := by
  rcases ops25 h0 h1 with rfl | rfl | rfl | rfl | rfl | rfl | rfl | rfl | rfl | rfl | rfl | rfl | rfl | rfl | rfl | rfl | rfl | rfl | rfl | rfl | rfl | rfl | rfl | rfl | rfl <;> decide

set_option maxHeartbeats 4000000 in
theorem dopd_any (op : Int) (w : World) (h0 : 0 ≤ op) (h1 : op < 25) :
    Calls Tryd.prog 79 #[.int .i64 op] w fun e w' => e = .returned (.tuple #[.int .i64 ((cntOf op : Nat) : Int), .bool (useI op)]) ∧ w = w' := by
  have hc := ops25 h0 h1
  clear h0 h1
  rcases hc with rfl | rfl | rfl | rfl | rfl | rfl | rfl | rfl | rfl | rfl | rfl | rfl | rfl | rfl | rfl | rfl | rfl | rfl | rfl | rfl | rfl | rfl | rfl | rfl | rfl
  all_goals
    go_enter Tryd.func79, Tryd.ntmps79
    go_wp2
    refine bodyPost_ret (by simp [results, Tryd.results79, go_sem]; decide) rfl ⟨rfl, rfl⟩

/-- A reader that has turned to S, since w. -/
structure DK (w : World) (g : Nat) (S : Rd Unit) (w' : World) : Prop where
  r : DR w' g S
  g : w.grownBy w' (some g)
section
variable {w w' w'' : World} {g : Nat} {S T : Rd Unit}
theorem DK.set {gb : Nat} (h : DK w g S w') (hgb : w.heap.size ≤ gb) (hg : g < w.heap.size) (k : Nat) (u : Value) : DK w g S (w'.setCell ⟨gb, k, none⟩ u) :=
  ⟨h.r.kept (grown_put w' gb k u) (fun j hj => by injection hj with hj; omega), h.g.andThen (grown_put w' gb k u) (fun j hj => .inl (by injection hj with hj; omega))⟩
theorem DK.alloc (h : DK w g S w') (o : Obj) : DK w g S (w'.alloc o) := ⟨h.r.alloc o, h.g.trans (World.grownBy_alloc _ _ _)⟩
theorem DK.to (h : DK w g S w') (hr : DR w'' g T) (hg : w'.grownBy w'' (some g)) : DK w g T w'' := ⟨hr, h.g.trans hg⟩
theorem DK.start (h : DR w g S) : DK w g S w := ⟨h, World.grownBy.refl w _⟩
theorem DK.drewN (h : DK w g S w') (m : Nat) : DK w g S (w'.drewN m) := ⟨h.r.drewN m, grown_draws h.g m⟩
end

/-- The state behind i numbers; number i; the first i of three. -/
def stI (S : Rd Unit) : Nat → Rd Unit
  | 0 => S
  | i + 1 => ((stI S i).to numR).st
def vI (S : Rd Unit) (i : Nat) : Nat := ((stI S i).to numR).val 0
def nV (S : Rd Unit) (i j : Nat) : Int := if j < i then ((vI S j : Nat) : Int) else 0
def nCells (S : Rd Unit) (i : Nat) : List Value := [.int .i64 (nV S i 0), .int .i64 (nV S i 1), .int .i64 (nV S i 2)]
theorem nCells_zero (S : Rd Unit) : nCells S 0 = [.int .i64 0, .int .i64 0, .int .i64 0] := rfl
theorem nCells_at (S : Rd Unit) {i : Nat} (h : i < 3) : (nCells S i)[i]? = some (.int .i64 0) := by
  rcases (show i = 0 ∨ i = 1 ∨ i = 2 by omega) with rfl | rfl | rfl <;> simp [nCells, nV]
theorem nCells_set (S : Rd Unit) {i : Nat} (h : i < 3) : (nCells S i).set i (.int .i64 ((vI S i : Nat) : Int)) = nCells S (i + 1) := by
  rcases (show i = 0 ∨ i = 1 ∨ i = 2 by omega) with rfl | rfl | rfl <;> simp [nCells, nV]
theorem stI_no (x : Int) (i : Nat) : stI (.no x) i = .no x := by
  induction i with
  | zero => rfl
  | succ i ih => unfold stI; rw [ih]; rfl
/-- What reading an instruction gives, step by step. -/
theorem ins_steps {S : Rd Unit} (hb : ∀ u l, S = .ok u l → Byt l) {o k : Nat} {ui : Bool} {S1 : Rd Unit} (h1 : S1 = (S.to opR).st) (ho : o = (S.to opR).val 0) (hk : k = cntOf o) (hu : ui = useI o) :
    (S.to insR).st = (if ui then ((stI S1 k).to wordR).st else stI S1 k) ∧ ∀ x r, S.to insR = .ok x r → (⟨o, nV S1 k 0, nV S1 k 1, nV S1 k 2, if ui then ((((stI S1 k).to wordR).val 0 : Nat) : Int) else 0⟩ : Ins) = x := by
  have hno : ∀ x : Int, S.to insR = .no x → S1 = .no x → (S.to insR).st = (if ui then ((stI S1 k).to wordR).st else stI S1 k) ∧ ∀ y r, S.to insR = .ok y r → (⟨o, nV S1 k 0, nV S1 k 1, nV S1 k 2, if ui then ((((stI S1 k).to wordR).val 0 : Nat) : Int) else 0⟩ : Ins) = y := fun x e1 e2 => by
    rw [e1, e2, stI_no]
    exact ⟨by cases ui <;> rfl, fun y r e => by cases e⟩
  cases S with
  | no x => exact hno x rfl h1
  | ok u l =>
    have e := insR_op (hb u l rfl)
    have e' : (Rd.ok u l : Rd Unit).to insR = (opR l).and fun z r => opsR (useA z) (useB z) (useC z) (useI z) z r := e
    have h1' : S1 = (opR l).st := h1
    have ho' : o = (opR l).val 0 := ho
    have hlt : (opR l).val 0 < 25 := op_val (S := .ok u l)
    rw [← ho'] at hlt
    cases hm : opR l with
    | no x =>
      rw [hm] at e' h1'
      exact hno x e' h1'
    | ok z r =>
      rw [hm] at e' h1' ho'
      obtain rfl : o = z := ho'
      rw [Rd.and_ok] at e'
      obtain ⟨ua, ub, uc⟩ := cnt_uses (op := (o : Int)) (by omega) (by omega)
      rw [← hk] at ua ub uc
      rw [← hu] at e'
      have hk3 : k ≤ 3 := by rw [hk]; exact cnt_le _
      have hS1 : S1 = .ok () r := h1'
      rw [e', ops_st]
      have key : stN (useC o) numR (stN (useB o) numR (stN (useA o) numR (.ok () r))) = stI S1 k ∧ nV S1 k 0 = (vlN (useA o) numR (.ok () r) : Nat) ∧ nV S1 k 1 = (vlN (useB o) numR (stN (useA o) numR (.ok () r)) : Nat) ∧ nV S1 k 2 = (vlN (useC o) numR (stN (useB o) numR (stN (useA o) numR (.ok () r))) : Nat) := by
        rw [ua, ub, uc, hS1]
        rcases (show k = 0 ∨ k = 1 ∨ k = 2 ∨ k = 3 by omega) with h | h | h | h <;> rw [h] <;> exact ⟨rfl, rfl, rfl, rfl⟩
      obtain ⟨k0, k1, k2, k3⟩ := key
      refine ⟨by rw [k0]; rfl, fun x r' hx => ?_⟩
      rw [ops_val hx, k1, k2, k3, k0]
      cases ui <;> rfl
/-- What a call that reads an instruction leaves. -/
def DInPost (g : Nat) (S : Rd Unit) (w : World) (e : Ending) (w' : World) : Prop :=
  ∃ x : Ins, e = .returned (iv x.op x.a x.b x.c x.imm) ∧ DR w' g (S.to insR).st ∧ w.grownBy w' (some g) ∧ ∀ s r, S.to insR = .ok s r → x = s

set_option maxRecDepth 100000 in
set_option maxHeartbeats 2000000 in
theorem dinstr_any (g : Nat) (S : Rd Unit) (w : World) (h : Hid (DR w g S)) :
    Calls Tryd.prog 86 #[.pointer (some ⟨g, 0, none⟩)] w (DInPost g S w) := by
  have hg := h.out.lt
  obtain ⟨W, hW⟩ : ∃ W, w.alloc (.cells #[.int .i64 0, .int .i64 0, .int .i64 0, .int .i64 0, .int .u64 0] 49) = W := ⟨_, rfl⟩
  have HW := hide hW
  have K0 := hide (show DK w g S W by rw [← hW]; exact (DK.start h.out).alloc _)
  have R0 := hide (show Row W w.heap.size 49 [.int .i64 0, .int .i64 0, .int .i64 0, .int .i64 0, .int .u64 0] by rw [← hW]; exact Row.new w _ _)
  have co := dop_any g S W (hide K0.out.r)
  have ho25 := op_val (S := S)
  have hbt : ∀ u l, S = .ok u l → Byt l := fun u l e => by have := h.out; rw [e] at this; exact this.byt.1
  obtain ⟨o, ho⟩ : ∃ o, (S.to opR).val 0 = o := ⟨_, rfl⟩
  obtain ⟨S1, hS1⟩ : ∃ S1, (S.to opR).st = S1 := ⟨_, rfl⟩
  obtain ⟨k, hk⟩ : ∃ k, cntOf o = k := ⟨_, rfl⟩
  obtain ⟨ui, hu⟩ : ∃ u, useI o = u := ⟨_, rfl⟩
  have HST := hide (ins_steps hbt hS1.symm ho.symm hk.symm hu.symm)
  have hk3 : k ≤ 3 := by rw [← hk]; exact cnt_le _
  rw [ho, hS1] at co
  rw [ho] at ho25
  have cp := fun w => dopd_any (o : Int) w (by omega) (by omega)
  rw [hk, hu] at cp
  clear hW hbt ho hS1 hk hu
  go_enter Tryd.func86, Tryd.ntmps86
  go_wp2_with fail
  rw [HW.out]
  refine co.mono ?_
  rintro e w1 ⟨rfl, hR, hG⟩
  have K1 := hide (K0.out.to hR hG)
  have R1 := hide (R0.out.grown hG (fun e => by injection e with e; omega))
  obtain ⟨X, hX⟩ : ∃ X, w1.heap.size = X := ⟨_, rfl⟩
  have hwX : w.heap.size < X := by rw [← hX]; exact R1.out.lt
  obtain ⟨W2, hW2⟩ : ∃ W2, w1.alloc (.cells #[.int .i64 (o : Int), .int .i64 0, .int .i64 0, .int .i64 0, .int .u64 0] 49) = W2 := ⟨_, rfl⟩
  have HW2 := hide hW2
  have K2 := hide (show DK w g S1 W2 by rw [← hW2]; exact K1.out.alloc _)
  have R2 := hide (show Row W2 w.heap.size 49 [.int .i64 0, .int .i64 0, .int .i64 0, .int .i64 0, .int .u64 0] by rw [← hW2]; exact R1.out.alloc _)
  have X2 := hide (show Row W2 X 49 [.int .i64 (o : Int), .int .i64 0, .int .i64 0, .int .i64 0, .int .u64 0] by rw [← hW2, ← hX]; exact Row.new w1 49 [.int .i64 (o : Int), .int .i64 0, .int .i64 0, .int .i64 0, .int .u64 0])
  have hX2 : W2.heap.size = X + 1 := by rw [← hW2, ← hX]; simp
  have HX := hide hX
  have x0 := X2.out.cell (k := 0) rfl
  clear hW2 hR hG K0 R0 K1 R1 HW co hX
  go_upto_region 2 with (fail)
  rw [HW2.out, HX.out]
  go_wp2_with fail
  refine (cp _).mono ?_
  rintro e w' ⟨rfl, rfl⟩
  go_upto_region 4 with (fail)
  obtain ⟨W3, hW3⟩ : ∃ W3, W2.alloc (.cells #[.int .i64 0, .int .i64 0, .int .i64 0] 122) = W3 := ⟨_, rfl⟩
  have HW3 := hide hW3
  have K3 := hide (show DK w g (stI S1 0) W3 by rw [← hW3]; exact K2.out.alloc _)
  have R3 := hide (show Row W3 w.heap.size 49 [.int .i64 0, .int .i64 0, .int .i64 0, .int .i64 0, .int .u64 0] by rw [← hW3]; exact R2.out.alloc _)
  have X3 := hide (show Row W3 X 49 [.int .i64 (o : Int), .int .i64 0, .int .i64 0, .int .i64 0, .int .u64 0] by rw [← hW3]; exact X2.out.alloc _)
  have N3 := hide (show Row W3 (X + 1) 122 (nCells S1 0) by rw [← hW3, ← hX2]; exact Row.new W2 122 [.int .i64 0, .int .i64 0, .int .i64 0])
  clear hW3 x0 K2 R2 X2 HW2
  rw [HW3.out]
  clear HW3
  go_wp2_with fail
  go_loopw [7, 19] (fun _ iv wr => ∃ i : Nat, i ≤ k ∧ iv = .int .i64 (i : Int) ∧ Hid (DK w g (stI S1 i) wr) ∧ Hid (Row wr w.heap.size 49 [.int .i64 0, .int .i64 0, .int .i64 0, .int .i64 0, .int .u64 0]) ∧ Hid (Row wr X 49 [.int .i64 (o : Int), .int .i64 0, .int .i64 0, .int .i64 0, .int .u64 0]) ∧ Hid (Row wr (X + 1) 122 (nCells S1 i))) (fun _ iv _ => k - (intOf iv).toNat)
  case atStart => exact ⟨0, Nat.zero_le _, rfl, K3, R3, X3, N3⟩
  case round =>
    obtain ⟨i, hik, rfl, KI, RI, XI, NI⟩ := hrel
    clear K3 R3 X3 N3
    by_cases hlt : i < k
    · have hi3 : i < 3 := by omega
      have hlz : (i : Int) < (k : Int) := by omega
      have hz3 : (i : Int) < 3 := by omega
      go_wp2_with fail
      refine (dnum_any g (stI S1 i) wr (hide KI.out.r)).mono ?_
      rintro e w4 ⟨rfl, hR, hG⟩
      have K4 := hide (show DK w g (stI S1 (i + 1)) w4 from KI.out.to hR hG)
      have R4 := hide (RI.out.grown hG (fun e => by injection e with e; omega))
      have X4 := hide (XI.out.grown hG (fun e => by injection e with e; omega))
      have N4 := hide (NI.out.grown hG (fun e => by injection e with e; omega))
      have n0 := N4.out.cell (nCells_at S1 hi3)
      have f0 := N4.out.free i
      have N5 := N4.out.set_ i (.int .i64 ((vI S1 i : Nat) : Int))
      rw [nCells_set S1 hi3] at N5
      have HN5 := hide N5
      have R5 := hide (R4.out.far (p := ⟨X + 1, i, none⟩) (by simp; omega) (.int .i64 ((vI S1 i : Nat) : Int)))
      have X5 := hide (X4.out.far (p := ⟨X + 1, i, none⟩) (by simp) (.int .i64 ((vI S1 i : Nat) : Int)))
      have K5 := hide (K4.out.set (gb := X + 1) (by omega) hg i (.int .i64 ((vI S1 i : Nat) : Int)))
      have EV := hide (show ((stI S1 i).to numR).val 0 = vI S1 i from rfl)
      rw [EV.out]
      clear hR hG N5 KI RI XI NI K4 R4 X4 N4
      go_wp2_with fail
      go_roundw
      case rel => exact ⟨i + 1, by omega, by go_num, K5, R5, X5, HN5⟩
      case measure => simp [intOf]; omega
    · have hi2 : k = i := by omega
      subst hi2
      have hlz : ¬ ((k : Int) < (k : Int)) := by omega
      have m0 := NI.out.cell (k := 0) rfl
      have m1 := NI.out.cell (k := 1) rfl
      have m2 := NI.out.cell (k := 2) rfl
      have y1 := XI.out.cell (k := 1) rfl
      have y2 := XI.out.cell (k := 2) rfl
      have y3 := XI.out.cell (k := 3) rfl
      have u1 := XI.out.free 1
      have u2 := XI.out.free 2
      have u3 := XI.out.free 3
      obtain ⟨v0, hv0⟩ : ∃ v, nV S1 k 0 = v := ⟨_, rfl⟩
      obtain ⟨v1, hv1⟩ : ∃ v, nV S1 k 1 = v := ⟨_, rfl⟩
      obtain ⟨v2, hv2⟩ : ∃ v, nV S1 k 2 = v := ⟨_, rfl⟩
      rw [hv0] at m0
      rw [hv1] at m1
      rw [hv2] at m2
      have HST2 := HST.out
      rw [hv0, hv1, hv2] at HST2
      have HS3 := hide HST2
      clear hv0 hv1 hv2 HST2 HST hlt
      go_wp2_with fail
      go_region
      obtain ⟨W6, hW6⟩ : ∃ W6, (((wr.setCell ⟨X, 1, none⟩ (.int .i64 v0)).setCell ⟨X, 2, none⟩ (.int .i64 v1)).setCell ⟨X, 3, none⟩ (.int .i64 v2)).drew = W6 := ⟨_, rfl⟩
      have K6 := hide (show DK w g (stI S1 k) W6 by rw [← hW6]; exact (((KI.out.set (show w.heap.size ≤ X by omega) hg 1 (.int .i64 v0)).set (show w.heap.size ≤ X by omega) hg 2 (.int .i64 v1)).set (show w.heap.size ≤ X by omega) hg 3 (.int .i64 v2)).drewN 1)
      have R6 := hide (show Row W6 w.heap.size 49 [.int .i64 0, .int .i64 0, .int .i64 0, .int .i64 0, .int .u64 0] by rw [← hW6]; exact (((RI.out.far (p := ⟨X, 1, none⟩) (by simp; omega) (.int .i64 v0)).far (p := ⟨X, 2, none⟩) (by simp; omega) (.int .i64 v1)).far (p := ⟨X, 3, none⟩) (by simp; omega) (.int .i64 v2)).drew)
      have X6 := hide (show Row W6 X 49 [.int .i64 (o : Int), .int .i64 v0, .int .i64 v1, .int .i64 v2, .int .u64 0] by rw [← hW6]; exact (((XI.out.set_ 1 (.int .i64 v0)).set_ 2 (.int .i64 v1)).set_ 3 (.int .i64 v2)).drew)
      rw [hW6]
      clear hW6 KI RI XI NI m0 m1 m2 y1 y2 y3 u1 u2 u3
      cases ui with
      | false =>
        have x0 := X6.out.cell (k := 0) rfl
        have x1 := X6.out.cell (k := 1) rfl
        have x2 := X6.out.cell (k := 2) rfl
        have x3 := X6.out.cell (k := 3) rfl
        have x4 := X6.out.cell (k := 4) rfl
        have r0 := R6.out.cell (k := 0) rfl
        have r1 := R6.out.cell (k := 1) rfl
        have r2 := R6.out.cell (k := 2) rfl
        have r3 := R6.out.cell (k := 3) rfl
        have r4 := R6.out.cell (k := 4) rfl
        have q0 := R6.out.free 0
        have q1 := R6.out.free 1
        have q2 := R6.out.free 2
        have q3 := R6.out.free 3
        have q4 := R6.out.free 4
        have hf := hide (((((R6.out.set_ 0 (.int .i64 (o : Int))).set_ 1 (.int .i64 v0)).set_ 2 (.int .i64 v1)).set_ 3 (.int .i64 v2)).set_ 4 (.int .u64 0))
        have KF := hide (((((K6.out.set (Nat.le_refl w.heap.size) hg 0 (.int .i64 (o : Int))).set (Nat.le_refl w.heap.size) hg 1 (.int .i64 v0)).set (Nat.le_refl w.heap.size) hg 2 (.int .i64 v1)).set (Nat.le_refl w.heap.size) hg 3 (.int .i64 v2)).set (Nat.le_refl w.heap.size) hg 4 (.int .u64 0))
        go_wp2
        have f0 := hf.out.cell (k := 0) rfl
        have f1 := hf.out.cell (k := 1) rfl
        have f2 := hf.out.cell (k := 2) rfl
        have f3 := hf.out.cell (k := 3) rfl
        have f4 := hf.out.cell (k := 4) rfl
        refine bodyPost_ret (v := iv (o : Int) v0 v1 v2 0) (by simp [results, Tryd.results86, go_sem, f0, f1, f2, f3, f4]) rfl ⟨⟨(o : Int), v0, v1, v2, 0⟩, rfl, ?_, KF.out.g, ?_⟩
        · rw [HS3.out.1]; exact KF.out.r
        · exact HS3.out.2
      | true =>
        go_wp2_with fail
        refine (dword_any g (stI S1 k) W6 (hide K6.out.r)).mono ?_
        rintro e w7 ⟨rfl, hR, hG⟩
        obtain ⟨m, hm⟩ : ∃ m : Int, (((stI S1 k).to wordR).val 0 : Nat) = m := ⟨_, rfl⟩
        have HS4 := HS3.out
        simp only [if_true] at HS4
        rw [hm] at HS4
        clear HS3
        have HS3 := hide HS4
        have K7 := hide (K6.out.to hR hG)
        have R7 := hide (R6.out.grown hG (fun e => by injection e with e; omega))
        have X7 := hide (X6.out.grown hG (fun e => by injection e with e; omega))
        have y4 := X7.out.cell (k := 4) rfl
        have u4 := X7.out.free 4
        have K8 := hide (K7.out.set (show w.heap.size ≤ X by omega) hg 4 (.int .u64 m))
        have R8 := hide (R7.out.far (p := ⟨X, 4, none⟩) (by simp; omega) (.int .u64 m))
        have X8 := hide (X7.out.set_ 4 (.int .u64 m))
        rw [hm]
        clear hm hR hG K6 R6 X6 HS4
        have x0 := X8.out.cell (k := 0) rfl
        have x1 := X8.out.cell (k := 1) rfl
        have x2 := X8.out.cell (k := 2) rfl
        have x3 := X8.out.cell (k := 3) rfl
        have x4 := X8.out.cell (k := 4) rfl
        have r0 := R8.out.cell (k := 0) rfl
        have r1 := R8.out.cell (k := 1) rfl
        have r2 := R8.out.cell (k := 2) rfl
        have r3 := R8.out.cell (k := 3) rfl
        have r4 := R8.out.cell (k := 4) rfl
        have q0 := R8.out.free 0
        have q1 := R8.out.free 1
        have q2 := R8.out.free 2
        have q3 := R8.out.free 3
        have q4 := R8.out.free 4
        have hf := hide (((((R8.out.set_ 0 (.int .i64 (o : Int))).set_ 1 (.int .i64 v0)).set_ 2 (.int .i64 v1)).set_ 3 (.int .i64 v2)).set_ 4 (.int .u64 m))
        have KF := hide (((((K8.out.set (Nat.le_refl w.heap.size) hg 0 (.int .i64 (o : Int))).set (Nat.le_refl w.heap.size) hg 1 (.int .i64 v0)).set (Nat.le_refl w.heap.size) hg 2 (.int .i64 v1)).set (Nat.le_refl w.heap.size) hg 3 (.int .i64 v2)).set (Nat.le_refl w.heap.size) hg 4 (.int .u64 m))
        go_wp2
        have f0 := hf.out.cell (k := 0) rfl
        have f1 := hf.out.cell (k := 1) rfl
        have f2 := hf.out.cell (k := 2) rfl
        have f3 := hf.out.cell (k := 3) rfl
        have f4 := hf.out.cell (k := 4) rfl
        refine bodyPost_ret (v := iv (o : Int) v0 v1 v2 m) (by simp [results, Tryd.results86, go_sem, f0, f1, f2, f3, f4]) rfl ⟨⟨(o : Int), v0, v1, v2, m⟩, rfl, ?_, KF.out.g, ?_⟩
        · rw [HS3.out.1]; exact KF.out.r
        · exact HS3.out.2
end Go.Proofs.YtgcjckbndkddmaaDoor
end

section
/-
  The developers' reader: slots, code. Conditions: at most 2^20 bytes.
-/
namespace Go.Proofs.YtgcjckbndkddmaaDoor
open Go.RowKit

/-- n zero elements. -/
theorem made_flat {α : Type} {f : α → List Value} {a : α} {m : Nat} {z : Array Value} (hm : ∀ a, (f a).length = m) (hz : z.toList = f a) (n : Nat) : madeCells z (n * m) = ((List.replicate n a).flatMap f).toArray := by
  have hzs : z.size = m := by rw [← Array.length_toList, hz, hm]
  apply Array.ext'
  apply List.ext_getElem?
  intro j
  have hl : ((List.replicate n a).flatMap f).length = n * m := by rw [flat_len hm, List.length_replicate]
  by_cases hj : j < n * m
  · have hm0 : 0 < m := by
      rcases Nat.eq_zero_or_pos m with h | h
      · subst h; simp at hj
      · exact h
    have hi : j / m < n := Nat.div_lt_of_lt_mul (by rw [Nat.mul_comm]; exact hj)
    have hr : j % m < m := Nat.mod_lt _ hm0
    have h := flat_at hm (List.replicate n a) (j / m) a (by rw [List.getElem?_replicate, if_pos hi]) (j % m) hr
    rw [Nat.mul_comm, Nat.div_add_mod] at h
    rw [List.toList_toArray, h]
    have h2 : (madeCells z (n * m)).toList[j]? = some (z[j % z.size]!) := by
      simp [madeCells, hj]
    rw [h2, hzs, ← hz, Array.getElem?_toList]
    simp [getElem!_def, hzs, hr]
  · rw [List.getElem?_eq_none (by rw [Array.length_toList, size_madeCells]; omega), List.getElem?_eq_none (by rw [List.toList_toArray, hl]; omega)]
theorem make_flat {P : Program} {t e : TypeId} {i : TypeInfo} {z : Value} {α : Type} {f : α → List Value} {a : α} {m : Nat} (ht : P.underlying t = some (.slice e)) (hi : P.info? e = some i) (hz : i.zero = some z) (hs : i.size = m) (hm : ∀ a, (f a).length = m) (hzc : z.cells.toList = f a) (n : Nat) (hb : i.bytes * n ≤ 140737488355328) (h63 : n ≤ 2147483647) (W : World) :
    (Instr.makeSlice t (.int .i64 (n : Int)) (.int .i64 (n : Int))).run P W = .ok (.slice (some ⟨W.heap.size, 0, none⟩) n n) (W.alloc (.cells ((List.replicate n a).flatMap f).toArray e)) := by
  have h := run_make W t e i _ ht hi hz .i64 .i64 (n : Int) (n : Int) (by omega) (by omega) (by rw [← Int.natCast_mul]; omega) (by omega)
  rw [h, Int.toNat_natCast, hs, made_flat hm hzc n]
theorem fill_set {α : Type} {L : List α} {n i : Nat} {z a : α} (hL : L.length = i) (hi : i < n) : (L ++ List.replicate (n - i) z).set i a = (L ++ [a]) ++ List.replicate (n - (i + 1)) z := by
  rw [List.set_append_right _ _ (by omega), hL, Nat.sub_self, show n - i = (n - (i + 1)) + 1 by omega, List.replicate_succ, List.set_cons_zero, List.append_assoc]
  rfl
theorem fill_at {α : Type} {L : List α} {n i : Nat} {z : α} (hL : L.length = i) (hi : i < n) : (L ++ List.replicate (n - i) z)[i]? = some z := by
  rw [List.getElem?_append_right (by omega), hL, Nat.sub_self, List.getElem?_replicate, if_pos (by omega)]
theorem pcells_set {l : List (Int × Int)} {i : Nat} {x : Int × Int} (h : l[i]? = some x) (s t : Int) : ((pcells l).set (i * 2) (.int .i64 s)).set (i * 2 + 1) (.int .i64 t) = pcells (l.set i (s, t)) := by
  have hk : i < l.length := (List.getElem?_eq_some_iff.1 h).1
  have hl : ∀ u : Int × Int, ([Value.int .i64 u.1, .int .i64 u.2] : List Value).length = 2 := fun _ => rfl
  have s0 := flat_set hl l i x (s, x.2) h 0 (by omega) (.int .i64 s) rfl
  have s1 := flat_set hl (l.set i (s, x.2)) i (s, x.2) (s, t) (by rw [List.getElem?_set_self hk]) 1 (by omega) (.int .i64 t) rfl
  rw [List.set_set] at s1
  unfold pcells
  rw [Nat.add_zero] at s0
  rw [s0, s1]
theorem icells_set {l : List Ins} {i : Nat} {x : Ins} (h : l[i]? = some x) (o a b c m : Int) :
    (((((icells l).set (i * 5) (.int .i64 o)).set (i * 5 + 1) (.int .i64 a)).set (i * 5 + 2) (.int .i64 b)).set (i * 5 + 3) (.int .i64 c)).set (i * 5 + 4) (.int .u64 m) = icells (l.set i ⟨o, a, b, c, m⟩) := by
  have hk : i < l.length := (List.getElem?_eq_some_iff.1 h).1
  have s0 := flat_set icell_len l i x ⟨o, x.a, x.b, x.c, x.imm⟩ h 0 (by omega) (.int .i64 o) rfl
  have s1 := flat_set icell_len (l.set i ⟨o, x.a, x.b, x.c, x.imm⟩) i ⟨o, x.a, x.b, x.c, x.imm⟩ ⟨o, a, x.b, x.c, x.imm⟩ (by rw [List.getElem?_set_self hk]) 1 (by omega) (.int .i64 a) rfl
  have s2 := flat_set icell_len (l.set i ⟨o, a, x.b, x.c, x.imm⟩) i ⟨o, a, x.b, x.c, x.imm⟩ ⟨o, a, b, x.c, x.imm⟩ (by rw [List.getElem?_set_self hk]) 2 (by omega) (.int .i64 b) rfl
  have s3 := flat_set icell_len (l.set i ⟨o, a, b, x.c, x.imm⟩) i ⟨o, a, b, x.c, x.imm⟩ ⟨o, a, b, c, x.imm⟩ (by rw [List.getElem?_set_self hk]) 3 (by omega) (.int .i64 c) rfl
  have s4 := flat_set icell_len (l.set i ⟨o, a, b, c, x.imm⟩) i ⟨o, a, b, c, x.imm⟩ ⟨o, a, b, c, m⟩ (by rw [List.getElem?_set_self hk]) 4 (by omega) (.int .u64 m) rfl
  rw [List.set_set] at s1 s2 s3 s4
  unfold icells
  rw [Nat.add_zero] at s0
  rw [s0, s1, s2, s3, s4]

theorem LoopI.next {α : Type} {p : List Int → Rd α} {S0 S : Rd Unit} {n k : Nat} {l : List α} {a : α} (h : LoopI p S0 n S (k + 1) l) (ha : ∀ s r, S.to p = .ok s r → a = s) : LoopI p S0 n (S.to p).st k (l ++ [a]) := by
  cases S with
  | ok u t => exact h.step ha
  | no x => exact fun β K => h β K
theorem slot_steps {S S1 : Rd Unit} {sz k : Nat} (h1 : S1 = (S.to numR).st) (hz : sz = (S.to numR).val 0) (hk : k = (S1.to (limR 24 4)).val 0) : (S.to slR).st = (S1.to (limR 24 4)).st ∧ ∀ s r, S.to slR = .ok s r → ((sz : Int), (2 : Int) ^ k) = s := by
  cases S with
  | no x => rw [h1]; exact ⟨rfl, fun s r e => by cases e⟩
  | ok u l =>
    have e : (Rd.ok u l : Rd Unit).to slR = (numR l).and fun s r => (limR 24 4 r).and fun k r => .ok ((s : Int), (2 : Int) ^ k) r := by
      rw [numR_lim]; exact slR_lim l
    rw [e]
    have h1' : S1 = (numR l).st := h1
    have hz' : sz = (numR l).val 0 := hz
    cases hm : numR l with
    | no x => rw [h1', hm]; exact ⟨rfl, fun s r e => by cases e⟩
    | ok v r =>
      rw [hm] at h1' hz'
      obtain rfl : sz = v := hz'
      have h1'' : S1 = .ok () r := h1'
      rw [h1''] at hk ⊢
      have hk' : k = (limR 24 4 r).val 0 := hk
      rw [Rd.and_ok]
      show ((limR 24 4 r).and _).st = (limR 24 4 r).st ∧ _
      cases hm2 : limR 24 4 r with
      | no x => exact ⟨rfl, fun s r e => by cases e⟩
      | ok v2 r2 =>
        rw [hm2] at hk'
        obtain rfl : k = v2 := hk'
        exact ⟨rfl, fun s r e => by injection e⟩

/-- Elements that were read. -/
def ElPost {α : Type} (p : List Int → Rd α) (most : Nat) (F : List α → List Value) (g : Nat) (S : Rd Unit) (w : World) (e : Ending) (w' : World) : Prop :=
  ∃ (A : Option Addr) (n c : Nat) (L : List α) (S3 : Rd Unit), e = .returned (.slice A n c) ∧ L.length = n ∧ Cap A n c ∧ Far w.heap.size A ∧ Sees w' w'.heap.size A (F L) ∧ DR w' g S3 ∧ w.grownBy w' (some g) ∧
    ∀ (β : Type) (K : List α → List Int → Rd β), ((S.to (countR most)).st.to (timesR p ((S.to (countR most)).val 0))).and K = S3.to (K L)
theorem dinfo_slot : (Tryd.prog.info? 62).map (fun i => (i.zero, i.size, i.bytes)) = some (some (.agg #[.int .i64 0, .int .i64 0]), 2, 16) := by kernel_rfl
theorem dinfo_instr : (Tryd.prog.info? 49).map (fun i => (i.zero, i.size, i.bytes)) = some (some (.agg #[.int .i64 0, .int .i64 0, .int .i64 0, .int .i64 0, .int .u64 0]), 5, 40) := by kernel_rfl
/-- What a loop that fills a row keeps. -/
def FillI {α : Type} (p : List Int → Rd α) (F : List α → List Value) (z : α) (T : TypeId) (g G n : Nat) (S2 : Rd Unit) (w : World) (i : Nat) (wr : World) : Prop :=
  ∃ (S : Rd Unit) (L : List α), L.length = i ∧ DK w g S wr ∧ Row wr G T (F (L ++ List.replicate (n - i) z)) ∧ LoopI p S2 n S (n - i) L

set_option maxRecDepth 100000 in
set_option maxHeartbeats 2000000 in
theorem dslots_any (g : Nat) (S : Rd Unit) (w : World) (h : Hid (DR w g S)) :
    Calls Tryd.prog 62 #[.pointer (some ⟨g, 0, none⟩)] w (ElPost slR 512 pcells g S w) := by
  have hg := h.out.lt
  obtain ⟨i0, hi, hz0, hz1, hz2⟩ := info_parts dinfo_slot
  have cc := dcount_any g 512 S w h (by omega)
  have hn512 := dcount_val (most := 512) (S := S) (by omega)
  obtain ⟨S2, hS2⟩ : ∃ S2, (S.to (countR 512)).st = S2 := ⟨_, rfl⟩
  obtain ⟨n, hn⟩ : ∃ n, (S.to (countR 512)).val 0 = n := ⟨_, rfl⟩
  have HEL := hide (show ∀ (e : Ending) (w' : World), (∃ (A : Option Addr) (n' c : Nat) (L : List (Int × Int)) (S3 : Rd Unit), e = .returned (.slice A n' c) ∧ L.length = n' ∧ Cap A n' c ∧ Far w.heap.size A ∧ Sees w' w'.heap.size A (pcells L) ∧ DR w' g S3 ∧ w.grownBy w' (some g) ∧
    ∀ (β : Type) (K : List (Int × Int) → List Int → Rd β), (S2.to (timesR slR n)).and K = S3.to (K L)) → ElPost slR 512 pcells g S w e w' from fun e w' h => by rw [← hS2, ← hn] at h; exact h)
  rw [hS2, hn] at cc
  rw [hn] at hn512
  rw [show ((512 : Nat) : Int) = 512 from rfl] at cc
  clear hS2 hn
  have hmk := make_flat (P := Tryd.prog) (f := fun u : Int × Int => [Value.int .i64 u.1, .int .i64 u.2]) (a := ((0 : Int), (0 : Int))) Tryd.underlying51 hi hz0 hz1 (fun _ => rfl) rfl n (by rw [hz2]; omega) (by omega)
  go_enter Tryd.func62, Tryd.ntmps62
  go_wp2_with fail
  refine cc.mono ?_
  rintro e w1 ⟨rfl, hR, hG⟩
  have K1 := hide ((DK.start h.out).to hR hG)
  obtain ⟨G, hGe⟩ : ∃ G, w1.heap.size = G := ⟨_, rfl⟩
  have hwG : w.heap.size ≤ G := by rw [← hGe]; exact hG.size
  have hgG : g < G := by omega
  have hmk1 := hmk w1
  obtain ⟨W2, hW2⟩ : ∃ W2, w1.alloc (.cells ((List.replicate n ((0 : Int), (0 : Int))).flatMap (fun u : Int × Int => [Value.int .i64 u.1, .int .i64 u.2])).toArray 62) = W2 := ⟨_, rfl⟩
  rw [hW2, hGe] at hmk1
  have FI := hide (show FillI slR pcells ((0 : Int), (0 : Int)) 62 g G n S2 w 0 W2 from ⟨S2, [], rfl, by rw [← hW2]; exact K1.out.alloc _, by rw [← hW2, ← hGe]; exact Row.new w1 _ _, LoopI.start _ _ _⟩)
  clear hW2 hR hG K1 hGe hmk cc
  go_wp2_with fail
  clear hmk1
  go_loopw [4, 10] (fun _ iv wr => ∃ i : Nat, i ≤ n ∧ iv = .int .i64 (i : Int) ∧ Hid (FillI slR pcells ((0 : Int), (0 : Int)) 62 g G n S2 w i wr)) (fun _ iv _ => n - (intOf iv).toNat)
  case atStart => exact ⟨0, Nat.zero_le _, rfl, FI⟩
  case round =>
    obtain ⟨i, hin, rfl, hF⟩ := hrel
    obtain ⟨S4, L, hL, hK, hRow, hLo⟩ := hF.out
    have HK := hide hK
    have HR := hide hRow
    have HLo := hide hLo
    have HL := hide hL
    clear hK hRow hLo hL FI
    by_cases hlt : i < n
    · have hlz : (i : Int) < (n : Int) := by omega
      have hiz : (0 : Int) ≤ (i : Int) := by omega
      go_wp2_with fail
      refine (dnum_any g S4 wr (hide HK.out.r)).mono ?_
      rintro e w4 ⟨rfl, hR, hG⟩
      have K4 := hide (HK.out.to hR hG)
      have R4 := hide (HR.out.grown hG (fun e => by injection e with e; omega))
      obtain ⟨sz, hsz⟩ : ∃ s, (S4.to numR).val 0 = s := ⟨_, rfl⟩
      obtain ⟨S5, hS5⟩ : ∃ s, (S4.to numR).st = s := ⟨_, rfl⟩
      rw [hS5] at K4
      rw [hsz]
      clear hR hG
      go_wp2_with fail
      have cl := dlim_any g 24 4 S5 w4 (hide K4.out.r) (by omega) (by omega)
      have hk24 := lim_val (most := 24) (x := 4) (S := S5) (by omega)
      obtain ⟨k, hk⟩ : ∃ s, (S5.to (limR 24 4)).val 0 = s := ⟨_, rfl⟩
      have HST := hide (slot_steps hS5.symm hsz.symm hk.symm)
      rw [hk, show ((24 : Nat) : Int) = 24 from rfl] at cl
      rw [hk] at hk24
      refine cl.mono ?_
      rintro e w5 ⟨rfl, hR, hG⟩
      have K5 := hide (K4.out.to hR hG)
      have R5 := hide (R4.out.grown hG (fun e => by injection e with e; omega))
      have hkz : (0 : Int) ≤ (k : Int) := by omega
      have hkz2 : (k : Int) ≤ 24 := by omega
      have hat := fill_at (z := ((0 : Int), (0 : Int))) HL.out hlt
      have hrow := pcells_at _ i _ hat
      have a0 := R5.out.cell hrow.1
      have a1 := R5.out.cell hrow.2
      have z0 := R5.out.free (i * 2)
      have z1 := R5.out.free (i * 2 + 1)
      have R6 := (R5.out.set_ (i * 2) (.int .i64 (sz : Int))).set_ (i * 2 + 1) (.int .i64 ((2 : Int) ^ k))
      rw [pcells_set hat, fill_set HL.out hlt] at R6
      have HR6 := hide R6
      have HK6 := hide ((K5.out.set (show w.heap.size ≤ G from hwG) hg (i * 2) (.int .i64 (sz : Int))).set (show w.heap.size ≤ G from hwG) hg (i * 2 + 1) (.int .i64 ((2 : Int) ^ k)))
      have HN := hide (show FillI slR pcells ((0 : Int), (0 : Int)) 62 g G n S2 w (i + 1) ((w5.setCell ⟨G, i * 2, none⟩ (.int .i64 (sz : Int))).setCell ⟨G, i * 2 + 1, none⟩ (.int .i64 ((2 : Int) ^ k))) from
        ⟨(S4.to slR).st, L ++ [((sz : Int), (2 : Int) ^ k)], by simp [HL.out], by rw [HST.out.1]; exact HK6.out, HR6.out, by
          have h1 := HLo.out
          rw [show n - i = (n - (i + 1)) + 1 by omega] at h1
          exact h1.next HST.out.2⟩)
      have PW := hide (pow_wrap hk24)
      clear hR hG R6 hrow hat K4 R4 HK HR hF cl hsz hS5 hk
      go_wp2_with fail
      rw [PW.out]
      go_roundw
      case rel => exact ⟨i + 1, by omega, by go_num, HN⟩
      case measure => simp [intOf]; omega
    · have hi2 : n = i := by omega
      subst hi2
      have hlz : ¬ ((n : Int) < (n : Int)) := by omega
      have FIN := hide (HEL.out (.returned (.slice (some ⟨G, 0, none⟩) n n)) wr ⟨some ⟨G, 0, none⟩, n, n, L, S4, rfl, HL.out, ⟨(fun e => by cases e), Nat.le_refl _, by omega⟩, (fun a ha => by injection ha with ha; subst ha; exact hwG), (fun j u hu => ⟨G, 0, rfl, HR.out.lt, by
        rw [Nat.zero_add]
        refine HR.out.cell ?_
        rw [Nat.sub_self, List.replicate_zero, List.append_nil]
        exact hu⟩), HK.out.r, HK.out.g, fun β K => by
          have h1 := HLo.out
          rw [Nat.sub_self] at h1
          exact h1.done β K⟩)
      clear hlt
      go_wp2_with fail
      go_ret
      exact FIN.out
set_option maxRecDepth 100000 in
set_option maxHeartbeats 2000000 in
theorem dcode_any (g : Nat) (S : Rd Unit) (w : World) (h : Hid (DR w g S)) :
    Calls Tryd.prog 63 #[.pointer (some ⟨g, 0, none⟩)] w (ElPost insR 1024 icells g S w) := by
  have hg := h.out.lt
  obtain ⟨i0, hi, hz0, hz1, hz2⟩ := info_parts dinfo_instr
  have cc := dcount_any g 1024 S w h (by omega)
  have hn1024 := dcount_val (most := 1024) (S := S) (by omega)
  obtain ⟨S2, hS2⟩ : ∃ S2, (S.to (countR 1024)).st = S2 := ⟨_, rfl⟩
  obtain ⟨n, hn⟩ : ∃ n, (S.to (countR 1024)).val 0 = n := ⟨_, rfl⟩
  have HEL := hide (show ∀ (e : Ending) (w' : World), (∃ (A : Option Addr) (n' c : Nat) (L : List Ins) (S3 : Rd Unit), e = .returned (.slice A n' c) ∧ L.length = n' ∧ Cap A n' c ∧ Far w.heap.size A ∧ Sees w' w'.heap.size A (icells L) ∧ DR w' g S3 ∧ w.grownBy w' (some g) ∧
    ∀ (β : Type) (K : List Ins → List Int → Rd β), (S2.to (timesR insR n)).and K = S3.to (K L)) → ElPost insR 1024 icells g S w e w' from fun e w' h => by rw [← hS2, ← hn] at h; exact h)
  rw [hS2, hn] at cc
  rw [hn] at hn1024
  rw [show ((1024 : Nat) : Int) = 1024 from rfl] at cc
  clear hS2 hn
  have hmk := make_flat (P := Tryd.prog) (f := icell) (a := (⟨0, 0, 0, 0, 0⟩ : Ins)) Tryd.underlying50 hi hz0 hz1 icell_len rfl n (by rw [hz2]; omega) (by omega)
  go_enter Tryd.func63, Tryd.ntmps63
  go_wp2_with fail
  refine cc.mono ?_
  rintro e w1 ⟨rfl, hR, hG⟩
  have K1 := hide ((DK.start h.out).to hR hG)
  obtain ⟨G, hGe⟩ : ∃ G, w1.heap.size = G := ⟨_, rfl⟩
  have hwG : w.heap.size ≤ G := by rw [← hGe]; exact hG.size
  have hgG : g < G := by omega
  have hmk1 := hmk w1
  obtain ⟨W2, hW2⟩ : ∃ W2, w1.alloc (.cells ((List.replicate n (⟨0, 0, 0, 0, 0⟩ : Ins)).flatMap (icell)).toArray 49) = W2 := ⟨_, rfl⟩
  rw [hW2, hGe] at hmk1
  have FI := hide (show FillI insR icells (⟨0, 0, 0, 0, 0⟩ : Ins) 49 g G n S2 w 0 W2 from ⟨S2, [], rfl, by rw [← hW2]; exact K1.out.alloc _, by rw [← hW2, ← hGe]; exact Row.new w1 _ _, LoopI.start _ _ _⟩)
  clear hW2 hR hG K1 hGe hmk cc
  go_wp2_with fail
  clear hmk1
  go_loopw [4, 10] (fun _ iv wr => ∃ i : Nat, i ≤ n ∧ iv = .int .i64 (i : Int) ∧ Hid (FillI insR icells (⟨0, 0, 0, 0, 0⟩ : Ins) 49 g G n S2 w i wr)) (fun _ iv _ => n - (intOf iv).toNat)
  case atStart => exact ⟨0, Nat.zero_le _, rfl, FI⟩
  case round =>
    obtain ⟨i, hin, rfl, hF⟩ := hrel
    obtain ⟨S4, L, hL, hK, hRow, hLo⟩ := hF.out
    have HK := hide hK
    have HR := hide hRow
    have HLo := hide hLo
    have HL := hide hL
    clear hK hRow hLo hL FI
    by_cases hlt : i < n
    · have hlz : (i : Int) < (n : Int) := by omega
      have hiz : (0 : Int) ≤ (i : Int) := by omega
      go_wp2_with fail
      refine (dinstr_any g S4 wr (hide HK.out.r)).mono ?_
      rintro e w4 ⟨x, rfl, hR, hG, hx⟩
      have K4 := hide (HK.out.to hR hG)
      have R4 := hide (HR.out.grown hG (fun e => by injection e with e; omega))
      have HX := hide hx
      have hat := fill_at (z := (⟨0, 0, 0, 0, 0⟩ : Ins)) HL.out hlt
      have hrow := fun j hj => flat_at icell_len _ i _ hat j hj
      have a0 := R4.out.cell (hrow 0 (by omega))
      have a1 := R4.out.cell (hrow 1 (by omega))
      have a2 := R4.out.cell (hrow 2 (by omega))
      have a3 := R4.out.cell (hrow 3 (by omega))
      have a4 := R4.out.cell (hrow 4 (by omega))
      rw [Nat.add_zero] at a0
      have z0 := R4.out.free (i * 5)
      have z1 := R4.out.free (i * 5 + 1)
      have z2 := R4.out.free (i * 5 + 2)
      have z3 := R4.out.free (i * 5 + 3)
      have z4 := R4.out.free (i * 5 + 4)
      have R6 := ((((R4.out.set_ (i * 5) (.int .i64 x.op)).set_ (i * 5 + 1) (.int .i64 x.a)).set_ (i * 5 + 2) (.int .i64 x.b)).set_ (i * 5 + 3) (.int .i64 x.c)).set_ (i * 5 + 4) (.int .u64 x.imm)
      rw [icells_set hat, fill_set HL.out hlt] at R6
      have HR6 := hide R6
      have hq : w.heap.size ≤ G := hwG
      have HK6 := hide (((((K4.out.set hq hg (i * 5) (.int .i64 x.op)).set hq hg (i * 5 + 1) (.int .i64 x.a)).set hq hg (i * 5 + 2) (.int .i64 x.b)).set hq hg (i * 5 + 3) (.int .i64 x.c)).set hq hg (i * 5 + 4) (.int .u64 x.imm))
      have HN := hide (show FillI insR icells (⟨0, 0, 0, 0, 0⟩ : Ins) 49 g G n S2 w (i + 1) (((((w4.setCell ⟨G, i * 5, none⟩ (.int .i64 x.op)).setCell ⟨G, i * 5 + 1, none⟩ (.int .i64 x.a)).setCell ⟨G, i * 5 + 2, none⟩ (.int .i64 x.b)).setCell ⟨G, i * 5 + 3, none⟩ (.int .i64 x.c)).setCell ⟨G, i * 5 + 4, none⟩ (.int .u64 x.imm)) from
        ⟨(S4.to insR).st, L ++ [x], by simp [HL.out], HK6.out, HR6.out, by
          have h1 := HLo.out
          rw [show n - i = (n - (i + 1)) + 1 by omega] at h1
          exact h1.next HX.out⟩)
      clear hR hG R6 hrow hat R4 HK HR hF K4 hx
      go_wp2_with fail
      go_roundw
      case rel => exact ⟨i + 1, by omega, by go_num, HN⟩
      case measure => simp [intOf]; omega
    · have hi2 : n = i := by omega
      subst hi2
      have hlz : ¬ ((n : Int) < (n : Int)) := by omega
      have FIN := hide (HEL.out (.returned (.slice (some ⟨G, 0, none⟩) n n)) wr ⟨some ⟨G, 0, none⟩, n, n, L, S4, rfl, HL.out, ⟨(fun e => by cases e), Nat.le_refl _, by omega⟩, (fun a ha => by injection ha with ha; subst ha; exact hwG), (fun j u hu => ⟨G, 0, rfl, HR.out.lt, by
        rw [Nat.zero_add]
        refine HR.out.cell ?_
        rw [Nat.sub_self, List.replicate_zero, List.append_nil]
        exact hu⟩), HK.out.r, HK.out.g, fun β K => by
          have h1 := HLo.out
          rw [Nat.sub_self] at h1
          exact h1.done β K⟩)
      clear hlt
      go_wp2_with fail
      go_ret
      exact FIN.out
end Go.Proofs.YtgcjckbndkddmaaDoor
end

section
/-
  The developers' reader: function. Conditions: at most 2^20 bytes.
-/
namespace Go.Proofs.YtgcjckbndkddmaaDoor
open Go.RowKit

theorem Rd.fin_end (S5 : Rd Unit) (f : Fn) : S5.fin = (S5.to (endR f)).st := by
  rw [(end_steps S5 f).1]
  rfl
/-- A reader's error: 0 is none. -/
def errOf (S : Rd Unit) : Int := match S with
  | .no x => x
  | .ok _ _ => 0
/-- What reading a function gives, from its description's. -/
theorem fn_steps {S : Rd Unit} {ds : List Int} {f : Fn} {S5 : Rd Unit} (hd : ds = (S.to descrR).val []) (h : descR ds = S5.to (endR f)) (hS5 : ∀ x, S5 = .no x → x ≠ 0) :
    (S.to descrR).st.fl (errOf S5.fin) = (S.to fnR).st ∧ ∀ u r, S.to fnR = .ok u r → f = u.1 := by
  cases S with
  | no x => exact ⟨rfl, fun u r e => by cases e⟩
  | ok u l =>
    have e1 : (Rd.ok u l : Rd Unit).to descrR = (numR l).and fun n r => takeR n r := rfl
    have e2 : (Rd.ok u l : Rd Unit).to fnR = (numR l).and fun n r => if r.length < n then .no 1 else (descR (r.take n)).and fun f _ => .ok (f, r.take n) (r.drop n) := rfl
    rw [e1] at hd ⊢
    rw [e2]
    clear e1 e2
    cases hnl : numR l with
    | no x => exact ⟨rfl, fun u r e => by cases e⟩
    | ok n r =>
      rw [hnl] at hd
      simp only [Rd.and_ok] at hd ⊢
      unfold takeR at hd ⊢
      by_cases hn : r.length < n
      · rw [if_pos hn, if_pos hn]
        exact ⟨rfl, fun u r e => by cases e⟩
      · rw [if_neg hn] at hd ⊢
        rw [if_neg hn]
        have hd' : ds = r.take n := hd
        rw [← hd', h]
        have hv := (end_steps S5 f).2
        rw [Rd.fin_end S5 f]
        have hno : ∀ x, S5.to (endR f) = .no x → x ≠ 0 := fun x hx => by
          cases S5 with
          | no y => injection hx with hx; subst hx; exact hS5 _ rfl
          | ok u t =>
            have hx' : endR f t = .no x := hx
            unfold endR at hx'
            split at hx'
            · cases hx'
            · injection hx' with hx'; subst hx'; decide
        cases hm : S5.to (endR f) with
        | no x =>
          refine ⟨?_, fun u r e => by cases e⟩
          show (if x = 0 then (Rd.ok () (r.drop n) : Rd Unit) else .no x) = .no x
          rw [if_neg (hno x hm)]
        | ok b t =>
          refine ⟨rfl, fun u r' e => ?_⟩
          injection e with e _
          rw [← e]
          exact hv b t hm
theorem DK.inner {w w' w'' : World} {g D : Nat} {S : Rd Unit} (h : DK w g S w') (hG : w'.grownBy w'' (some D)) (hg : g < w.heap.size) (hD : w.heap.size ≤ D) : DK w g S w'' :=
  ⟨h.r.kept hG (fun k hk => by injection hk with hk; omega), h.g.andThen hG (fun k hk => .inl (by injection hk with hk; omega))⟩
theorem Sees.pass {w w' : World} {lo B D : Nat} {A : Option Addr} {xs : List Value} (h : Sees w B A xs) (hf : Far lo A) (hB : B ≤ w.heap.size) (hG : w.grownBy w' (some D)) (hD : D < lo) : Sees w' B A xs :=
  h.keepF hf fun p h1 h2 => World.cell?_of_block (hG.block p.block (by omega) (fun e => by injection e with e; omega))
theorem Sees.put {w : World} {lo B D : Nat} {A : Option Addr} {xs : List Value} (h : Sees w B A xs) (hf : Far lo A) (hD : D < lo ∨ B ≤ D) (k : Nat) (u : Value) : Sees (w.setCell ⟨D, k, none⟩ u) B A xs :=
  h.keepF hf fun p h1 h2 => World.cell?_setCell_other _ _ _ _ (fun e => by subst e; simp at h1 h2; omega)
theorem dr_error {w : World} {g : Nat} {S : Rd Unit} (h : DR w g S) : w.cell? ⟨g, 1, none⟩ = some (.int .i64 (errOf S)) ∧ 0 ≤ errOf S ∧ errOf S ≤ 4 := by
  obtain ⟨A, n, c, zs, e, r, s, t⟩ := h
  have c1 := r.cell (k := 1) rfl
  cases S with
  | no x =>
    obtain ⟨he, h1, h2⟩ := t
    subst he
    exact ⟨c1, by show 0 ≤ e; omega, h2⟩
  | ok u l =>
    obtain ⟨he, _⟩ := t
    subst he
    exact ⟨c1, by show (0 : Int) ≤ 0; decide, by show (0 : Int) ≤ 4; decide⟩
/-- What a call that reads a function leaves. -/
def DFuPost (g : Nat) (S : Rd Unit) (w : World) (e : Ending) (w' : World) : Prop :=
  ∃ (P : Int) (A1 : Option Addr) (n1 c1 : Nat) (A2 : Option Addr) (n2 c2 : Nat) (f : Fn), e = .returned (fv P A1 n1 c1 A2 n2 c2) ∧
    HdAt w' w.heap.size w'.heap.size ⟨P, A1, n1, c1, A2, n2, c2⟩ f ∧ DR w' g (S.to fnR).st ∧ w.grownBy w' (some g) ∧ ∀ u r, S.to fnR = .ok u r → f = u.1

set_option maxRecDepth 100000 in
set_option maxHeartbeats 2400000 in
theorem dfunc_any (g : Nat) (S : Rd Unit) (w : World) (h : Hid (DR w g S)) :
    Calls Tryd.prog 39 #[.pointer (some ⟨g, 0, none⟩)] w (DFuPost g S w) := by
  have hg := h.out.lt
  obtain ⟨W, hW⟩ : ∃ W, w.alloc (.cells #[.int .i64 0, .slice none 0 0, .slice none 0 0] 53) = W := ⟨_, rfl⟩
  have HW := hide hW
  have K0 := hide (show DK w g S W by rw [← hW]; exact (DK.start h.out).alloc _)
  have R0 := hide (show Row W w.heap.size 53 [.int .i64 0, .slice none 0 0, .slice none 0 0] by rw [← hW]; exact Row.new w _ _)
  clear hW
  go_enter Tryd.func39, Tryd.ntmps39
  go_wp2_with fail
  rw [HW.out]
  refine (ddescr_any g S W (hide K0.out.r)).mono ?_
  rintro e w1 ⟨Ad, nd, cd, ds, rfl, hr, hd, hR, hG⟩
  have K1 := hide (K0.out.to hR hG)
  have R1 := hide (R0.out.grown hG (fun e => by injection e with e; omega))
  have HD := hide hd
  obtain ⟨D, hD⟩ : ∃ D, w1.heap.size = D := ⟨_, rfl⟩
  have hwD : w.heap.size < D := by rw [← hD]; exact R1.out.lt
  obtain ⟨W2, hW2⟩ : ∃ W2, w1.alloc (.cells #[.slice Ad nd cd, .int .i64 0] 69) = W2 := ⟨_, rfl⟩
  have HW2 := hide hW2
  have K2 := hide (show DK w g (S.to descrR).st W2 by rw [← hW2]; exact K1.out.alloc _)
  have R2 := hide (show Row W2 w.heap.size 53 [.int .i64 0, .slice none 0 0, .slice none 0 0] by rw [← hW2]; exact R1.out.alloc _)
  have D2 := hide (show DR W2 D (.ok () ds) from ⟨Ad, nd, cd, ds, 0, by rw [← hW2, ← hD]; exact Row.new w1 69 [.slice Ad nd cd, .int .i64 0], by
    rw [← hW2]
    exact (hr.more (B' := D) (by omega)).keep fun p hp => World.cell?_alloc_lt w1 _ p (by omega), rfl, rfl⟩)
  have hD2 : W2.heap.size = D + 1 := by rw [← hW2, ← hD]; simp
  have HDD := hide hD
  clear hW2 hR hG hd hr K0 R0 K1 R1 HW hD
  go_upto_region 2 with (fail)
  rw [HW2.out, HDD.out]
  clear HW2 HDD
  go_wp2_with fail
  refine (dnum_any D (.ok () ds) W2 D2).mono ?_
  rintro e w3 ⟨rfl, hR, hG⟩
  obtain ⟨P, hP⟩ : ∃ P, ((Rd.ok () ds : Rd Unit).to numR).val 0 = P := ⟨_, rfl⟩
  obtain ⟨S1, hS1⟩ : ∃ S1, ((Rd.ok () ds : Rd Unit).to numR).st = S1 := ⟨_, rfl⟩
  rw [hS1] at hR
  rw [hP]
  have E1 := hide hS1
  have EP := hide hP
  have D3 := hide hR
  have K3 := hide (K2.out.inner hG hg (by omega))
  have R3 := hide (R2.out.grown hG (fun e => by injection e with e; omega))
  clear hR hG hS1 hP K2 R2 D2
  go_wp2_with fail
  refine (dslots_any D S1 w3 D3).mono ?_
  rintro e w4 ⟨A1, n1, c1, L, S3, rfl, hL1, hcap1, hfar1, hsee1, hR, hG, hstep1⟩
  have D4 := hide hR
  have K4 := hide (K3.out.inner hG hg (by omega))
  have R4 := hide (R3.out.grown hG (fun e => by injection e with e; omega))
  have HL1 := hide hL1
  have HC1 := hide hcap1
  have hD3 : D < w3.heap.size := D3.out.lt
  have HF1 := hide (hfar1.more (lo' := D + 1) (by omega))
  have HS1 := hide hsee1
  have HT1 := hide hstep1
  clear hR hG hL1 hcap1 hfar1 hsee1 hstep1 K3 R3 D3
  go_wp2_with fail
  refine (dcode_any D S3 w4 D4).mono ?_
  rintro e w5 ⟨A2, n2, c2, C, S5, rfl, hL2, hcap2, hfar2, hsee2, hR, hG, hstep2⟩
  have D5 := hide hR
  have K5 := hide (K4.out.inner hG hg (by omega))
  have R5 := hide (R4.out.grown hG (fun e => by injection e with e; omega))
  have HL2 := hide hL2
  have HC2 := hide hcap2
  have hD4 : D < w4.heap.size := D4.out.lt
  have HF2 := hide (hfar2.more (lo' := D + 1) (by omega))
  have HS5 := hide ((HS1.out.pass HF1.out (Nat.le_refl _) hG (by omega)).more hG.size)
  have HS6 := hide hsee2
  have hdesc := desc_steps (.ok () ds) S1 _ S3 _ S5 P _ _ L C E1.out.symm EP.out.symm rfl rfl HT1.out rfl rfl hstep2
  have HDE := hide (show descR ds = S5.to (endR ⟨P, L, C⟩) from hdesc)
  have HBAD := hide (show ∀ x, S5 = .no x → x ≠ 0 from fun x e => by have h := D5.out; rw [e] at h; have := h.bad; omega)
  obtain ⟨X, hX⟩ : ∃ X, w5.heap.size = X := ⟨_, rfl⟩
  obtain ⟨W6, hW6⟩ : ∃ W6, w5.alloc (.cells #[.int .i64 (P : Int), .slice A1 n1 c1, .slice A2 n2 c2] 53) = W6 := ⟨_, rfl⟩
  have HW6 := hide hW6
  have hX5 : D < X := by rw [← hX]; exact D5.out.lt
  have K6 := hide (show DK w g (S.to descrR).st W6 by rw [← hW6]; exact K5.out.alloc _)
  have R6 := hide (show Row W6 w.heap.size 53 [.int .i64 0, .slice none 0 0, .slice none 0 0] by rw [← hW6]; exact R5.out.alloc _)
  have D6 := hide (show DR W6 D S5 by rw [← hW6]; exact D5.out.alloc _)
  have X6 := hide (show Row W6 X 53 [.int .i64 (P : Int), .slice A1 n1 c1, .slice A2 n2 c2] by rw [← hW6, ← hX]; exact Row.new w5 53 [.int .i64 (P : Int), .slice A1 n1 c1, .slice A2 n2 c2])
  have HS7 := hide (show Sees W6 X A1 (pcells L) by rw [← hW6, ← hX]; exact HS5.out.alloc (Nat.le_refl _) _)
  have HS8 := hide (show Sees W6 X A2 (icells C) by rw [← hW6, ← hX]; exact HS6.out.alloc (Nat.le_refl _) _)
  have hX6 : X < W6.heap.size := X6.out.lt
  have HXX := hide hX
  clear hW6 hR hG hL2 hcap2 hfar2 hsee2 hstep2 hdesc K4 R4 D4 K5 R5 D5 HS1 HS5 HS6 HT1 E1 EP hX
  go_upto_region 3 with (fail)
  rw [HW6.out, HXX.out]
  clear HW6 HXX
  go_wp2_with fail
  refine (dend_any D S5 W6 D6).mono ?_
  rintro e w7 ⟨rfl, hR, hG⟩
  have D7 := hide hR
  have K7 := hide (K6.out.inner hG hg (by omega))
  have R7 := hide (R6.out.grown hG (fun e => by injection e with e; omega))
  have X7 := hide (X6.out.grown hG (fun e => by injection e with e; omega))
  have HS9 := hide (HS7.out.pass HF1.out (by omega) hG (by omega))
  have HS10 := hide (HS8.out.pass HF2.out (by omega) hG (by omega))
  obtain ⟨q1, q2, q3⟩ := dr_error hR
  obtain ⟨x, hx⟩ : ∃ x, errOf S5.fin = x := ⟨_, rfl⟩
  rw [hx] at q1 q2 q3
  have HST := hide (fn_steps (S := S) HD.out HDE.out HBAD.out)
  rw [hx] at HST
  have hX7 : X < w7.heap.size := X7.out.lt
  clear hR hG hx K6 R6 X6 D6 HS7 HS8 HDE HBAD HD
  go_wp2_with fail
  refine (dfail_any g (S.to descrR).st x w7 (hide K7.out.r) ⟨q2, q3⟩).mono ?_
  rintro e w8 ⟨rfl, hR, hG⟩
  rw [HST.out.1] at hR
  have K8 := hide (K7.out.to hR hG)
  have R8 := hide (R7.out.grown hG (fun e => by injection e with e; omega))
  have X8 := hide (X7.out.grown hG (fun e => by injection e with e; omega))
  have HS11 := hide (HS9.out.pass HF1.out (by omega) hG (by omega))
  have HS12 := hide (HS10.out.pass HF2.out (by omega) hG (by omega))
  have hX8 : X < w8.heap.size := X8.out.lt
  have x0 := X8.out.cell (k := 0) rfl
  have x1 := X8.out.cell (k := 1) rfl
  have x2 := X8.out.cell (k := 2) rfl
  have r0 := R8.out.cell (k := 0) rfl
  have r1 := R8.out.cell (k := 1) rfl
  have r2 := R8.out.cell (k := 2) rfl
  have z0 := R8.out.free 0
  have z1 := R8.out.free 1
  have z2 := R8.out.free 2
  have hf := hide (((R8.out.set_ 0 (.int .i64 (P : Int))).set_ 1 (.slice A1 n1 c1)).set_ 2 (.slice A2 n2 c2))
  have KF := hide (((K8.out.set (Nat.le_refl w.heap.size) hg 0 (.int .i64 (P : Int))).set (Nat.le_refl w.heap.size) hg 1 (.slice A1 n1 c1)).set (Nat.le_refl w.heap.size) hg 2 (.slice A2 n2 c2))
  have HSA := hide (((HS11.out.put HF1.out (D := w.heap.size) (.inl (by omega)) 0 (.int .i64 (P : Int))).put HF1.out (D := w.heap.size) (.inl (by omega)) 1 (.slice A1 n1 c1)).put HF1.out (D := w.heap.size) (.inl (by omega)) 2 (.slice A2 n2 c2))
  have HSB := hide (((HS12.out.put HF2.out (D := w.heap.size) (.inl (by omega)) 0 (.int .i64 (P : Int))).put HF2.out (D := w.heap.size) (.inl (by omega)) 1 (.slice A1 n1 c1)).put HF2.out (D := w.heap.size) (.inl (by omega)) 2 (.slice A2 n2 c2))
  have hsz := KF.out.g.size
  have hwx : X ≤ (((w8.setCell ⟨w.heap.size, 0, none⟩ (.int .i64 (P : Int))).setCell ⟨w.heap.size, 1, none⟩ (.slice A1 n1 c1)).setCell ⟨w.heap.size, 2, none⟩ (.slice A2 n2 c2)).heap.size := by simp [World.setCell]; omega
  have HH := hide (show HdAt (((w8.setCell ⟨w.heap.size, 0, none⟩ (.int .i64 (P : Int))).setCell ⟨w.heap.size, 1, none⟩ (.slice A1 n1 c1)).setCell ⟨w.heap.size, 2, none⟩ (.slice A2 n2 c2)) w.heap.size (((w8.setCell ⟨w.heap.size, 0, none⟩ (.int .i64 (P : Int))).setCell ⟨w.heap.size, 1, none⟩ (.slice A1 n1 c1)).setCell ⟨w.heap.size, 2, none⟩ (.slice A2 n2 c2)).heap.size ⟨(P : Int), A1, n1, c1, A2, n2, c2⟩ ⟨(P : Int), L, C⟩ from
    ⟨rfl, HL1.out, HL2.out, HC1.out, HC2.out, HF1.out.more (by omega), HF2.out.more (by omega), HSA.out.more hwx, HSB.out.more hwx⟩)
  clear hR hG K7 R7 X7 D7 HS9 HS10 HS11 HS12 HSA HSB hwx hsz q1 q2 q3
  go_wp2
  have f0 := hf.out.cell (k := 0) rfl
  have f1 := hf.out.cell (k := 1) rfl
  have f2 := hf.out.cell (k := 2) rfl
  exact bodyPost_ret (v := fv (P : Int) A1 n1 c1 A2 n2 c2) (by simp [results, Tryd.results39, go_sem, f0, f1, f2]) rfl ⟨(P : Int), A1, n1, c1, A2, n2, c2, ⟨(P : Int), L, C⟩, rfl, HH.out, KF.out.r, KF.out.g, HST.out.2⟩
end Go.Proofs.YtgcjckbndkddmaaDoor
end
