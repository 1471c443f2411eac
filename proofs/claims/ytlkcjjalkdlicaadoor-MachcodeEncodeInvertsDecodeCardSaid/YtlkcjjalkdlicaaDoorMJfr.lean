import Derived.Test.YtlkcjjalkdlicaaDoorMJins
import Derived.Test.YtlkcjjalkdlicaaDoorMQcor
import Derived.Deep.RegionLaw
set_option linter.unusedVariables false
set_option linter.unusedSimpArgs false
section
/-
  The program's reader: frame. Conditions: at most 2^20 bytes.
-/
namespace Go.Proofs.YtlkcjjalkdlicaaDoor
open Go.RowKit

theorem timesL_snoc {α : Type} (p : List Int → α × List Int) : ∀ (n : Nat) (l : List Int), timesL p (n + 1) l = ((timesL p n l).1 ++ [(p (timesL p n l).2).1], (p (timesL p n l).2).2)
  | 0, l => rfl
  | n + 1, l => by
    have h := timesL_snoc p n (p l).2
    rw [timesL, h]
    rfl
theorem timesL_len {α : Type} (p : List Int → α × List Int) : ∀ (n : Nat) (l : List Int), (timesL p n l).1.length = n
  | 0, _ => rfl
  | n + 1, l => by
    rw [timesL]
    simp [timesL_len p n]
/-- What a call that reads a frame leaves. -/
def JFrPost (g : Nat) (Al : Int) (l : List Int) (w : World) (e : Ending) (w' : World) : Prop :=
  ∃ (A : Option Addr) (n c : Nat), e = .returned (.agg #[.int .i64 (frL Al l).1.params, .int .i64 (frL Al l).1.size, .slice A n c]) ∧ FdAt w' w.heap.size w'.heap.size ⟨(frL Al l).1.params, (frL Al l).1.size, A, n, c⟩ (frL Al l).1 ∧ JR w' g (frL Al l).2 ∧ w.grownBy w' (some g)
/-- What the loop over a frame's code keeps. -/
structure JFrI (g G X n : Nat) (P S : Int) (l : List Int) (w : World) (i : Nat) (wr : World) : Prop where
  k : JK w g (timesL minsL i l).2 wr
  x : Row wr X 83 [.int .i64 P, .int .i64 S, .slice (some ⟨G, 0, none⟩) n n]
  r : Row wr G 65 (icells ((timesL minsL i l).1 ++ List.replicate (n - i) ⟨0, 0, 0, 0, 0⟩))
  z : Row wr w.heap.size 83 [.int .i64 0, .int .i64 0, .slice none 0 0]

set_option maxRecDepth 100000 in
set_option maxHeartbeats 4000000 in
theorem jframe_any (g : Nat) (Al : Int) (l : List Int) (w : World) (h : Hid (JR w g l)) :
    Calls Tryd.prog 75 #[.pointer (some ⟨g, 0, none⟩), .int .i64 Al] w (JFrPost g Al l w) := by
  have hg := h.out.lt
  obtain ⟨i0, hi, hz0, hz1, hz2⟩ := info_parts dinfo_instr
  obtain ⟨l1, hl1⟩ : ∃ x, (numL l).2 = x := ⟨_, rfl⟩
  obtain ⟨P, hP⟩ : ∃ x, (numL l).1 = x := ⟨_, rfl⟩
  obtain ⟨l2, hl2⟩ : ∃ x, (numL l1).2 = x := ⟨_, rfl⟩
  obtain ⟨Q, hQ⟩ : ∃ x, (numL l1).1 = x := ⟨_, rfl⟩
  obtain ⟨l3, hl3⟩ : ∃ x, (limL 1024 l2).2 = x := ⟨_, rfl⟩
  obtain ⟨n, hn⟩ : ∃ x, (limL 1024 l2).1 = x := ⟨_, rfl⟩
  have hn1024 : n ≤ 1024 := by rw [← hn]; exact Nat.min_le_right _ _
  have HF := hide (show frL Al l = (⟨P, wrap64 (Q * Al), (timesL minsL n l3).1⟩, (timesL minsL n l3).2) by rw [← hn, ← hl3, ← hQ, ← hl2, ← hP, ← hl1]; rfl)
  have hmk := make_flat (P := Tryd.prog) (f := icell) (a := (⟨0, 0, 0, 0, 0⟩ : Ins)) Tryd.underlying66 hi hz0 hz1 icell_len rfl n (by rw [hz2]; omega) (by omega)
  obtain ⟨W, hW⟩ : ∃ W, w.alloc (.cells #[.int .i64 0, .int .i64 0, .slice none 0 0] 83) = W := ⟨_, rfl⟩
  have HW := hide hW
  have K0 := hide (show JK w g l W by rw [← hW]; exact (JK.start h.out).alloc _)
  have R0 := hide (show Row W w.heap.size 83 [.int .i64 0, .int .i64 0, .slice none 0 0] by rw [← hW]; exact Row.new w _ _)
  have ca := jnum_any g l W (hide K0.out.r)
  have cb := fun w h => jnum_any g l1 w h
  have cc := fun w h => jlim_any g 1024 l2 w h (by omega)
  rw [hl1, hP] at ca
  rw [hl2, hQ] at cb
  rw [hl3, hn, show ((1024 : Nat) : Int) = 1024 from rfl] at cc
  clear hW hl1 hP hl2 hQ hl3 hn
  go_enter Tryd.func75, Tryd.ntmps75
  go_wp2_with fail
  rw [HW.out]
  refine ca.mono ?_
  rintro e w1 ⟨rfl, hR, hG⟩
  have K1 := hide (K0.out.to hR hG)
  have R1 := hide (R0.out.grown hG (fun e => by injection e with e; omega))
  clear hR hG K0 R0 HW ca
  go_wp2_with fail
  refine (cb w1 (hide K1.out.r)).mono ?_
  rintro e w2 ⟨rfl, hR, hG⟩
  have K2 := hide (K1.out.to hR hG)
  have R2 := hide (R1.out.grown hG (fun e => by injection e with e; omega))
  obtain ⟨X, hX⟩ : ∃ X, w2.heap.size = X := ⟨_, rfl⟩
  have HX := hide hX
  have hwX : w.heap.size < X := by rw [← hX]; exact R2.out.lt
  obtain ⟨S, hS⟩ : ∃ S, wrap64 (Q * Al) = S := ⟨_, rfl⟩
  rw [hS] at HF
  have HS := hide hS
  obtain ⟨W2, hW2⟩ : ∃ V, w2.alloc (.cells #[.int .i64 P, .int .i64 S, .slice none 0 0] 83) = V := ⟨_, rfl⟩
  have HW2 := hide hW2
  have K3 := hide (show JK w g l2 W2 by rw [← hW2]; exact K2.out.alloc _)
  have R3 := hide (show Row W2 w.heap.size 83 [.int .i64 0, .int .i64 0, .slice none 0 0] by rw [← hW2]; exact R2.out.alloc _)
  have X3 := hide (show Row W2 X 83 [.int .i64 P, .int .i64 S, .slice none 0 0] by rw [← hW2, ← hX]; exact Row.new w2 83 [.int .i64 P, .int .i64 S, .slice none 0 0])
  clear hR hG K1 R1 cb hX hW2 hS K2 R2
  go_upto_region 2 with (fail)
  rw [HS.out, HW2.out, HX.out]
  clear HS HW2 HX
  go_wp2_with fail
  refine (cc W2 (hide K3.out.r)).mono ?_
  rintro e w3 ⟨rfl, hR, hG⟩
  have K4 := hide (K3.out.to hR hG)
  have R4 := hide (R3.out.grown hG (fun e => by injection e with e; omega))
  have X4 := hide (X3.out.grown hG (fun e => by injection e with e; omega))
  obtain ⟨G, hGe⟩ : ∃ G, w3.heap.size = G := ⟨_, rfl⟩
  have hXG : X < G := by rw [← hGe]; exact X4.out.lt
  have hmk1 := hmk w3
  obtain ⟨W4, hW4⟩ : ∃ V, w3.alloc (.cells ((List.replicate n (⟨0, 0, 0, 0, 0⟩ : Ins)).flatMap icell).toArray 65) = V := ⟨_, rfl⟩
  rw [hW4, hGe] at hmk1
  have K5 := hide (show JK w g l3 W4 by rw [← hW4]; exact K4.out.alloc _)
  have R5 := hide (show Row W4 w.heap.size 83 [.int .i64 0, .int .i64 0, .slice none 0 0] by rw [← hW4]; exact R4.out.alloc _)
  have X5 := hide (show Row W4 X 83 [.int .i64 P, .int .i64 S, .slice none 0 0] by rw [← hW4]; exact X4.out.alloc _)
  have G5 := hide (show Row W4 G 65 (icells (List.replicate n (⟨0, 0, 0, 0, 0⟩ : Ins))) by rw [← hW4, ← hGe]; exact Row.new w3 _ _)
  have y2 := X5.out.cell (k := 2) rfl
  have f2 := X5.out.free 2
  have FI := hide (show JFrI g G X n P S l3 w 0 (W4.setCell ⟨X, 2, none⟩ (.slice (some ⟨G, 0, none⟩) n n)) from ⟨K5.out.set (by omega) hg 2 _, X5.out.set_ 2 _, G5.out.far (p := ⟨X, 2, none⟩) (by simp; omega) _, R5.out.far (p := ⟨X, 2, none⟩) (by simp; omega) _⟩)
  obtain ⟨W6, hW6⟩ : ∃ V, W4.setCell ⟨X, 2, none⟩ (.slice (some ⟨G, 0, none⟩) n n) = V := ⟨_, rfl⟩
  have HW6 := hide hW6
  rw [hW6] at FI
  clear hR hG K3 R3 X3 K4 R4 X4 hmk cc hGe hW4 K5 R5 X5 G5 hW6
  go_upto_region 3 with (fail)
  rw [HW6.out]
  clear HW6 hmk1 y2 f2
  have y2 := FI.out.x.cell (k := 2) rfl
  go_wp2_with fail
  clear y2
  go_loopw [6, 21] (fun _ iv wr => ∃ i : Nat, i ≤ n ∧ iv = .int .i64 (i : Int) ∧ Hid (JFrI g G X n P S l3 w i wr)) (fun _ iv _ => n - (intOf iv).toNat)
  case atStart => exact ⟨0, Nat.zero_le _, rfl, FI⟩
  case round =>
    obtain ⟨i, hin, rfl, hF⟩ := hrel
    clear FI
    by_cases hlt : i < n
    · have hlz : (i : Int) < (n : Int) := by omega
      have hiz : (0 : Int) ≤ (i : Int) := by omega
      have y2 := hF.out.x.cell (k := 2) rfl
      have HSN := hide (timesL_snoc minsL i l3)
      have hL := timesL_len minsL i l3
      have ci := jinstr_any g (timesL minsL i l3).2 wr.drew (hide (hF.out.k.r.drewN 1))
      obtain ⟨L, hLL⟩ : ∃ L, (timesL minsL i l3).1 = L := ⟨_, rfl⟩
      obtain ⟨li, hli⟩ : ∃ x, (timesL minsL i l3).2 = x := ⟨_, rfl⟩
      rw [hLL, hli] at HSN
      rw [hLL] at hL
      rw [hli] at ci
      have KI := hide (show JK w g li wr by rw [← hli]; exact hF.out.k)
      have XI := hide hF.out.x
      have GI := hide (show Row wr G 65 (icells (L ++ List.replicate (n - i) (⟨0, 0, 0, 0, 0⟩ : Ins))) by rw [← hLL]; exact hF.out.r)
      have ZI := hide hF.out.z
      obtain ⟨x, hx⟩ : ∃ x, (minsL li).1 = x := ⟨_, rfl⟩
      obtain ⟨li2, hli2⟩ : ∃ x, (minsL li).2 = x := ⟨_, rfl⟩
      rw [hx, hli2] at HSN ci
      have HL := hide hL
      have hat := fill_at (z := (⟨0, 0, 0, 0, 0⟩ : Ins)) hL hlt
      clear hLL hli hx hli2 hF hL
      go_upto_region 6 with (fail)
      go_region_law
        (first
          | (go_simp; go_at_call 102; refine ci.mono ?_; rintro e w4 ⟨rfl, hR, hG⟩; have y3 := (XI.out.drew.grown hG (fun e => by injection e with e; omega)).cell (k := 2) rfl; have R4 := GI.out.drew.grown hG (fun e => by injection e with e; omega); have hrow := fun j hj => flat_at icell_len _ i _ hat j hj; have a0 := R4.cell (hrow 0 (by omega)); have a1 := R4.cell (hrow 1 (by omega)); have a2 := R4.cell (hrow 2 (by omega)); have a3 := R4.cell (hrow 3 (by omega)); have a4 := R4.cell (hrow 4 (by omega)); rw [Nat.add_zero] at a0; have z0 := R4.free (i * 5); have z1 := R4.free (i * 5 + 1); have z2 := R4.free (i * 5 + 2); have z3 := R4.free (i * 5 + 3); have z4 := R4.free (i * 5 + 4); clear hrow))
      all_goals
        have R6 := ((((R4.set_ (i * 5) (.int .i64 x.op)).set_ (i * 5 + 1) (.int .i64 x.a)).set_ (i * 5 + 2) (.int .i64 x.b)).set_ (i * 5 + 3) (.int .i64 x.c)).set_ (i * 5 + 4) (.int .u64 x.imm)
        rw [icells_set hat, fill_set HL.out hlt] at R6
        have hq : w.heap.size ≤ G := by omega
        have X4 := XI.out.drew.grown hG (fun e => by injection e with e; omega)
        have Z4 := ZI.out.drew.grown hG (fun e => by injection e with e; omega)
        have K4 : JK w g li2 w4 := (KI.out.drewN 1).to hR hG
        have HN := hide (show JFrI g G X n P S l3 w (i + 1) (((((w4.setCell ⟨G, i * 5, none⟩ (.int .i64 x.op)).setCell ⟨G, i * 5 + 1, none⟩ (.int .i64 x.a)).setCell ⟨G, i * 5 + 2, none⟩ (.int .i64 x.b)).setCell ⟨G, i * 5 + 3, none⟩ (.int .i64 x.c)).setCell ⟨G, i * 5 + 4, none⟩ (.int .u64 x.imm)) from by
          refine ⟨?_, ?_, ?_, ?_⟩
          · rw [HSN.out]
            exact ((((K4.set hq hg (i * 5) (.int .i64 x.op)).set hq hg (i * 5 + 1) (.int .i64 x.a)).set hq hg (i * 5 + 2) (.int .i64 x.b)).set hq hg (i * 5 + 3) (.int .i64 x.c)).set hq hg (i * 5 + 4) (.int .u64 x.imm)
          · exact ((((X4.far (p := ⟨G, i * 5, none⟩) (by simp; omega) _).far (p := ⟨G, i * 5 + 1, none⟩) (by simp; omega) _).far (p := ⟨G, i * 5 + 2, none⟩) (by simp; omega) _).far (p := ⟨G, i * 5 + 3, none⟩) (by simp; omega) _).far (p := ⟨G, i * 5 + 4, none⟩) (by simp; omega) _
          · rw [HSN.out]; exact R6
          · exact ((((Z4.far (p := ⟨G, i * 5, none⟩) (by simp; omega) _).far (p := ⟨G, i * 5 + 1, none⟩) (by simp; omega) _).far (p := ⟨G, i * 5 + 2, none⟩) (by simp; omega) _).far (p := ⟨G, i * 5 + 3, none⟩) (by simp; omega) _).far (p := ⟨G, i * 5 + 4, none⟩) (by simp; omega) _)
        clear hR hG R6 R4 hat X4 Z4 K4 KI XI GI ZI ci y2 y3 a0 a1 a2 a3 a4 z0 z1 z2 z3 z4 HSN HL
        go_wp2_with fail
        go_roundw
        case rel => exact ⟨i + 1, by omega, by go_num, HN⟩
        case measure => simp [intOf]; omega
    · have hi2 : n = i := by omega
      subst hi2
      have hlz : ¬ ((n : Int) < (n : Int)) := by omega
      have x0 := hF.out.x.cell (k := 0) rfl
      have x1 := hF.out.x.cell (k := 1) rfl
      have x2 := hF.out.x.cell (k := 2) rfl
      have r0 := hF.out.z.cell (k := 0) rfl
      have r1 := hF.out.z.cell (k := 1) rfl
      have r2 := hF.out.z.cell (k := 2) rfl
      have q0 := hF.out.z.free 0
      have q1 := hF.out.z.free 1
      have q2 := hF.out.z.free 2
      have hf := hide (((hF.out.z.set_ 0 (.int .i64 P)).set_ 1 (.int .i64 S)).set_ 2 (.slice (some ⟨G, 0, none⟩) n n))
      have KF := hide (((hF.out.k.set (Nat.le_refl w.heap.size) hg 0 (.int .i64 P)).set (Nat.le_refl w.heap.size) hg 1 (.int .i64 S)).set (Nat.le_refl w.heap.size) hg 2 (.slice (some ⟨G, 0, none⟩) n n))
      have GF := hide (show Row (((wr.setCell ⟨w.heap.size, 0, none⟩ (.int .i64 P)).setCell ⟨w.heap.size, 1, none⟩ (.int .i64 S)).setCell ⟨w.heap.size, 2, none⟩ (.slice (some ⟨G, 0, none⟩) n n)) G 65 (icells (timesL minsL n l3).1) from by
        have h := ((hF.out.r.far (p := ⟨w.heap.size, 0, none⟩) (by simp; omega) (.int .i64 P)).far (p := ⟨w.heap.size, 1, none⟩) (by simp; omega) (.int .i64 S)).far (p := ⟨w.heap.size, 2, none⟩) (by simp; omega) (.slice (some ⟨G, 0, none⟩) n n)
        rwa [Nat.sub_self, List.replicate_zero, List.append_nil] at h)
      have FIN := hide (show JFrPost g Al l w (.returned (.agg #[.int .i64 P, .int .i64 S, .slice (some ⟨G, 0, none⟩) n n])) (((wr.setCell ⟨w.heap.size, 0, none⟩ (.int .i64 P)).setCell ⟨w.heap.size, 1, none⟩ (.int .i64 S)).setCell ⟨w.heap.size, 2, none⟩ (.slice (some ⟨G, 0, none⟩) n n)) from by
        unfold JFrPost
        rw [HF.out]
        refine ⟨some ⟨G, 0, none⟩, n, n, rfl, ⟨rfl, rfl, timesL_len _ _ _, ⟨(fun e => by cases e), Nat.le_refl _, by show n ≤ 8796093022208; omega⟩, (fun a ha => by injection ha with ha; subst ha; show w.heap.size ≤ G; omega), fun j u hu => ⟨G, 0, rfl, GF.out.lt, by rw [Nat.zero_add]; exact GF.out.cell hu⟩⟩, KF.out.r, KF.out.g⟩)
      clear hlt hF GF KF
      go_wp2
      have f0 := hf.out.cell (k := 0) rfl
      have f1 := hf.out.cell (k := 1) rfl
      have f2 := hf.out.cell (k := 2) rfl
      exact bodyPost_ret (v := .agg #[.int .i64 P, .int .i64 S, .slice (some ⟨G, 0, none⟩) n n]) (by simp [results, Tryd.results75, go_sem, f0, f1, f2]) rfl FIN.out
end Go.Proofs.YtlkcjjalkdlicaaDoor
end
