import Derived.Test.YtlkcjjalkdlicaaDoorMJrdr
import Derived.Test.YtlkcjjalkdlicaaDoorMJopd
import Derived.Test.YtlkcjjalkdlicaaDoorMApn
import Derived.Test.YtlkcjjalkdlicaaDoorMPmem
import Derived.Test.YtlkcjjalkdlicaaDoorMScan
import Derived.RegionTactic
import Derived.Outline
import Derived.Deep.DeepCutAuto
import Derived.Laws.OwnMore
import Derived.Laws.MakeOwn
set_option linter.unusedVariables false
set_option linter.unusedSimpArgs false
section
/-
  The program's reader: instr. Conditions: at most 2^20 bytes.
-/
namespace Go.Proofs.YtlkcjjalkdlicaaDoor
open Go.RowKit

/-- A reader that has turned to l, since w. -/
structure JK (w : World) (g : Nat) (l : List Int) (w' : World) : Prop where
  r : JR w' g l
  g : w.grownBy w' (some g)
section
variable {w w' w'' : World} {g : Nat} {l l' : List Int}
theorem JK.set {gb : Nat} (h : JK w g l w') (hgb : w.heap.size ≤ gb) (hg : g < w.heap.size) (k : Nat) (u : Value) : JK w g l (w'.setCell ⟨gb, k, none⟩ u) :=
  ⟨h.r.kept (grown_put w' gb k u) (fun j hj => by injection hj with hj; omega), h.g.andThen (grown_put w' gb k u) (fun j hj => .inl (by injection hj with hj; omega))⟩
theorem JK.alloc (h : JK w g l w') (o : Obj) : JK w g l (w'.alloc o) := ⟨h.r.alloc o, h.g.trans (World.grownBy_alloc _ _ _)⟩
theorem JK.to (h : JK w g l w') (hr : JR w'' g l') (hg : w'.grownBy w'' (some g)) : JK w g l' w'' := ⟨hr, h.g.trans hg⟩
theorem JK.start (h : JR w g l) : JK w g l w := ⟨h, World.grownBy.refl w _⟩
theorem JK.drewN (h : JK w g l w') (m : Nat) : JK w g l (w'.drewN m) := ⟨h.r.drewN m, grown_draws h.g m⟩
theorem JK.below (h : JK w g l w') (hb : Below w'.heap.size w' w'') : JK w g l w'' := ⟨h.r.below hb, h.g.trans (grown_below hb _)⟩
end
/-- The cells of an instruction of which i numbers have been read. -/
def jCells (o : Int) (l : List Int) (i : Nat) : List Value := [.int .i64 o, .int .i64 (nNum l i 0), .int .i64 (nNum l i 1), .int .i64 (nNum l i 2), .int .u64 0]
theorem jCells_set (o : Int) (l : List Int) {i : Nat} (h : i < 3) : (jCells o l i).set (i + 1) (.int .i64 (numL (nRest l i)).1) = jCells o l (i + 1) := by
  rcases (show i = 0 ∨ i = 1 ∨ i = 2 by omega) with rfl | rfl | rfl <;> simp [jCells, nNum]
theorem jCells_at (o : Int) (l : List Int) {i : Nat} (h : i < 3) : (jCells o l i)[i + 1]? = some (.int .i64 0) := by
  rcases (show i = 0 ∨ i = 1 ∨ i = 2 by omega) with rfl | rfl | rfl <;> simp [jCells, nNum]
theorem jptr_at (X : Nat) {i : Nat} (h : i < 3) : ([.pointer (some ⟨X, 1, none⟩), .pointer (some ⟨X, 2, none⟩), .pointer (some ⟨X, 3, none⟩)] : List Value)[i]? = some (.pointer (some ⟨X, i + 1, none⟩)) := by
  rcases (show i = 0 ∨ i = 1 ∨ i = 2 by omega) with rfl | rfl | rfl <;> rfl
theorem opL_in {l : List Int} (h : Byt l) : 0 ≤ (opL l).1 ∧ (opL l).1 ≤ 255 := by
  cases l with
  | nil => exact ⟨Int.le_refl _, show (0 : Int) ≤ 255 by decide⟩
  | cons z r => exact h z List.mem_cons_self
theorem jfin_on {g : Nat} {l : List Int} {w : World} (h : mI (opL l).1 = true) : ∀ e w', e = .returned (iv (opL l).1 (nNum (opL l).2 (mcnt (opL l).1) 0) (nNum (opL l).2 (mcnt (opL l).1) 1) (nNum (opL l).2 (mcnt (opL l).1) 2) ((wordL (nRest (opL l).2 (mcnt (opL l).1))).1 : Int)) → JR w' g (wordL (nRest (opL l).2 (mcnt (opL l).1))).2 → w.grownBy w' (some g) → JPost g (minsL l).2 (iv (minsL l).1.op (minsL l).1.a (minsL l).1.b (minsL l).1.c (minsL l).1.imm) w e w' := by
  intro e w' he hr hg
  unfold minsL
  simp only [h, if_true]
  exact ⟨he, hr, hg⟩
theorem jfin_off {g : Nat} {l : List Int} {w : World} (h : mI (opL l).1 = false) : ∀ e w', e = .returned (iv (opL l).1 (nNum (opL l).2 (mcnt (opL l).1) 0) (nNum (opL l).2 (mcnt (opL l).1) 1) (nNum (opL l).2 (mcnt (opL l).1) 2) 0) → JR w' g (nRest (opL l).2 (mcnt (opL l).1)) → w.grownBy w' (some g) → JPost g (minsL l).2 (iv (minsL l).1.op (minsL l).1.a (minsL l).1.b (minsL l).1.c (minsL l).1.imm) w e w' := by
  intro e w' he hr hg
  unfold minsL
  simp only [h, Bool.false_eq_true, if_false]
  exact ⟨he, hr, hg⟩

set_option maxRecDepth 100000 in
set_option maxHeartbeats 2000000 in
theorem jinstr_any (g : Nat) (l : List Int) (w : World) (h : Hid (JR w g l)) :
    Calls Tryd.prog 102 #[.pointer (some ⟨g, 0, none⟩)] w (JPost g (minsL l).2 (iv (minsL l).1.op (minsL l).1.a (minsL l).1.b (minsL l).1.c (minsL l).1.imm) w) := by
  have hg := h.out.lt
  obtain ⟨W, hW⟩ : ∃ W, w.alloc (.cells #[.int .i64 0, .int .i64 0, .int .i64 0, .int .i64 0, .int .u64 0] 65) = W := ⟨_, rfl⟩
  have HW := hide hW
  have K0 := hide (show JK w g l W by rw [← hW]; exact (JK.start h.out).alloc _)
  have R0 := hide (show Row W w.heap.size 65 [.int .i64 0, .int .i64 0, .int .i64 0, .int .i64 0, .int .u64 0] by rw [← hW]; exact Row.new w _ _)
  have co := jop_any g l W (hide K0.out.r)
  have ho255 := opL_in h.out.byt
  have EON := hide (@jfin_on g l w)
  have EOFF := hide (@jfin_off g l w)
  obtain ⟨o, ho⟩ : ∃ o, (opL l).1 = o := ⟨_, rfl⟩
  obtain ⟨l1, hl1⟩ : ∃ l1, (opL l).2 = l1 := ⟨_, rfl⟩
  rw [ho, hl1] at co
  rw [ho] at ho255 EON EOFF
  rw [hl1] at EON EOFF
  obtain ⟨k, hk⟩ : ∃ k, mcnt o = k := ⟨_, rfl⟩
  obtain ⟨ui, hu⟩ : ∃ u, mI o = u := ⟨_, rfl⟩
  have hk3 : k ≤ 3 := by rw [← hk]; exact mcnt_le _
  have cp := fun w => jopd_any o w ho255.1 ho255.2
  rw [hk, hu] at cp
  rw [hk, hu] at EON EOFF
  clear hW ho hl1 hk hu
  go_enter Tryd.func102, Tryd.ntmps102
  go_wp2_with fail
  rw [HW.out]
  refine co.mono ?_
  rintro e w1 ⟨rfl, hR, hG⟩
  have K1 := hide (K0.out.to hR hG)
  have R1 := hide (R0.out.grown hG (fun e => by injection e with e; omega))
  obtain ⟨X, hX⟩ : ∃ X, w1.heap.size = X := ⟨_, rfl⟩
  have hwX : w.heap.size < X := by rw [← hX]; exact R1.out.lt
  obtain ⟨W2, hW2⟩ : ∃ W2, w1.alloc (.cells #[.int .i64 o, .int .i64 0, .int .i64 0, .int .i64 0, .int .u64 0] 65) = W2 := ⟨_, rfl⟩
  have HW2 := hide hW2
  have K2 := hide (show JK w g l1 W2 by rw [← hW2]; exact K1.out.alloc _)
  have R2 := hide (show Row W2 w.heap.size 65 [.int .i64 0, .int .i64 0, .int .i64 0, .int .i64 0, .int .u64 0] by rw [← hW2]; exact R1.out.alloc _)
  have X2 := hide (show Row W2 X 65 (jCells o l1 0) by rw [← hW2, ← hX]; exact Row.new w1 65 [.int .i64 o, .int .i64 0, .int .i64 0, .int .i64 0, .int .u64 0])
  have HX := hide hX
  have x0 := X2.out.cell (k := 0) rfl
  clear hW2 hR hG K0 R0 K1 R1 HW co hX
  go_upto_region 2 with (fail)
  rw [HW2.out, HX.out]
  go_wp2_with fail
  refine (cp _).mono ?_
  rintro e W2' ⟨rfl, hb2⟩
  have K2' := hide (K2.out.below hb2)
  have R2' := hide (R2.out.call hb2)
  have X2' := hide (X2.out.call hb2)
  obtain ⟨N, hN⟩ : ∃ N, W2'.heap.size = N := ⟨_, rfl⟩
  have hXN : X < N := by rw [← hN]; exact X2'.out.lt
  have HN := hide hN
  obtain ⟨W3, hW3⟩ : ∃ W3, W2'.alloc (.cells #[.pointer (some ⟨X, 1, none⟩), .pointer (some ⟨X, 2, none⟩), .pointer (some ⟨X, 3, none⟩)] 190) = W3 := ⟨_, rfl⟩
  have HW3 := hide hW3
  have K3 := hide (show JK w g (nRest l1 0) W3 by rw [← hW3]; exact K2'.out.alloc _)
  have R3 := hide (show Row W3 w.heap.size 65 [.int .i64 0, .int .i64 0, .int .i64 0, .int .i64 0, .int .u64 0] by rw [← hW3]; exact R2'.out.alloc _)
  have X3 := hide (show Row W3 X 65 (jCells o l1 0) by rw [← hW3]; exact X2'.out.alloc _)
  have N3 := hide (show Row W3 N 190 [.pointer (some ⟨X, 1, none⟩), .pointer (some ⟨X, 2, none⟩), .pointer (some ⟨X, 3, none⟩)] by rw [← hW3, ← hN]; exact Row.new W2' 190 [.pointer (some ⟨X, 1, none⟩), .pointer (some ⟨X, 2, none⟩), .pointer (some ⟨X, 3, none⟩)])
  clear hW3 x0 K2 R2 X2 HW2 K2' R2' X2' hb2 cp hN HX
  have hkz : (0 : Int) ≤ (k : Int) := by omega
  have hkz3 : (k : Int) ≤ 3 := by omega
  go_upto_region 4 with (fail)
  rw [HW3.out, HN.out]
  clear HW3 HN
  go_loopw [7, 24] (fun _ iv wr => ∃ i : Nat, i ≤ k ∧ iv = .int .i64 (i : Int) ∧ Hid (JK w g (nRest l1 i) wr) ∧ Hid (Row wr w.heap.size 65 [.int .i64 0, .int .i64 0, .int .i64 0, .int .i64 0, .int .u64 0]) ∧ Hid (Row wr X 65 (jCells o l1 i)) ∧ Hid (Row wr N 190 [.pointer (some ⟨X, 1, none⟩), .pointer (some ⟨X, 2, none⟩), .pointer (some ⟨X, 3, none⟩)])) (fun _ iv _ => k - (intOf iv).toNat)
  case atStart => exact ⟨0, Nat.zero_le _, rfl, K3, R3, X3, N3⟩
  case round =>
    obtain ⟨i, hik, rfl, KI, RI, XI, NI⟩ := hrel
    clear K3 R3 X3 N3
    by_cases hlt : i < k
    · have hi3 : i < 3 := by omega
      have hlz : (i : Int) < (k : Int) := by omega
      have hiz : (0 : Int) ≤ (i : Int) := by omega
      have n0 := NI.out.cell (jptr_at X hi3)
      go_wp2_with fail
      refine (jnum_any g (nRest l1 i) wr (hide KI.out.r)).mono ?_
      rintro e w4 ⟨rfl, hR, hG⟩
      have K4 := hide (show JK w g (nRest l1 (i + 1)) w4 from KI.out.to hR hG)
      have R4 := hide (RI.out.grown hG (fun e => by injection e with e; omega))
      have X4 := hide (XI.out.grown hG (fun e => by injection e with e; omega))
      have N4 := hide (NI.out.grown hG (fun e => by injection e with e; omega))
      have f0 := X4.out.free (i + 1)
      have g0 := X4.out.cell (jCells_at o l1 hi3)
      have N5 := X4.out.set_ (i + 1) (.int .i64 (numL (nRest l1 i)).1)
      rw [jCells_set o l1 hi3] at N5
      have HX5 := hide N5
      have R5 := hide (R4.out.far (p := ⟨X, i + 1, none⟩) (by simp; omega) (.int .i64 (numL (nRest l1 i)).1))
      have HN5 := hide (N4.out.far (p := ⟨X, i + 1, none⟩) (by simp; omega) (.int .i64 (numL (nRest l1 i)).1))
      have K5 := hide (K4.out.set (gb := X) (by omega) hg (i + 1) (.int .i64 (numL (nRest l1 i)).1))
      clear hR hG N5 KI RI XI NI K4 R4 X4 N4 n0
      go_wp2_with fail
      go_roundw
      case rel => exact ⟨i + 1, by omega, by go_num, K5, R5, HX5, HN5⟩
      case measure => simp [intOf]; omega
    · have hi2 : k = i := by omega
      subst hi2
      have hlz : ¬ ((k : Int) < (k : Int)) := by omega
      obtain ⟨v0, hv0⟩ : ∃ v, nNum l1 k 0 = v := ⟨_, rfl⟩
      obtain ⟨v1, hv1⟩ : ∃ v, nNum l1 k 1 = v := ⟨_, rfl⟩
      obtain ⟨v2, hv2⟩ : ∃ v, nNum l1 k 2 = v := ⟨_, rfl⟩
      have X6 := hide (show Row wr X 65 [.int .i64 o, .int .i64 v0, .int .i64 v1, .int .i64 v2, .int .u64 0] by rw [← hv0, ← hv1, ← hv2]; exact XI.out)
      have EON2 := hide EON.out
      have EOFF2 := hide EOFF.out
      rw [hv0, hv1, hv2] at EON2 EOFF2
      obtain ⟨l2, hl2⟩ : ∃ l2, nRest l1 k = l2 := ⟨_, rfl⟩
      rw [hl2] at KI EON2 EOFF2
      have K6 := KI
      have R6 := RI
      clear hv0 hv1 hv2 hl2 XI NI KI RI EON EOFF hlt
      cases ui with
      | false =>
        have EM := hide (EOFF2.out rfl)
        clear EON2 EOFF2
        have x0 := X6.out.cell (k := 0) rfl
        have x1 := X6.out.cell (k := 1) rfl
        have x2 := X6.out.cell (k := 2) rfl
        have x3 := X6.out.cell (k := 3) rfl
        have x4 := X6.out.cell (k := 4) rfl
        have r0 := R6.out.cell (k := 0) rfl
        have r1 := R6.out.cell (k := 1) rfl
        have r2 := R6.out.cell (k := 2) rfl
        have r3 := R6.out.cell (k := 3) rfl
        have r4 := R6.out.cell (k := 4) rfl
        have q0 := R6.out.free 0
        have q1 := R6.out.free 1
        have q2 := R6.out.free 2
        have q3 := R6.out.free 3
        have q4 := R6.out.free 4
        have hf := hide (((((R6.out.set_ 0 (.int .i64 o)).set_ 1 (.int .i64 v0)).set_ 2 (.int .i64 v1)).set_ 3 (.int .i64 v2)).set_ 4 (.int .u64 0))
        have KF := hide (((((K6.out.set (Nat.le_refl w.heap.size) hg 0 (.int .i64 o)).set (Nat.le_refl w.heap.size) hg 1 (.int .i64 v0)).set (Nat.le_refl w.heap.size) hg 2 (.int .i64 v1)).set (Nat.le_refl w.heap.size) hg 3 (.int .i64 v2)).set (Nat.le_refl w.heap.size) hg 4 (.int .u64 0))
        go_wp2
        have f0 := hf.out.cell (k := 0) rfl
        have f1 := hf.out.cell (k := 1) rfl
        have f2 := hf.out.cell (k := 2) rfl
        have f3 := hf.out.cell (k := 3) rfl
        have f4 := hf.out.cell (k := 4) rfl
        exact bodyPost_ret (v := iv o v0 v1 v2 0) (by simp [results, Tryd.results102, go_sem, f0, f1, f2, f3, f4]) rfl (EM.out _ _ rfl KF.out.r KF.out.g)
      | true =>
        have EM := hide (EON2.out rfl)
        clear EON2 EOFF2
        go_wp2_with fail
        refine (jword_any g l2 wr (hide K6.out.r)).mono ?_
        rintro e w7 ⟨rfl, hR, hG⟩
        obtain ⟨m, hm⟩ : ∃ m : Int, ((wordL l2).1 : Int) = m := ⟨_, rfl⟩
        have K7 := hide (K6.out.to hR hG)
        have R7 := hide (R6.out.grown hG (fun e => by injection e with e; omega))
        have X7 := hide (X6.out.grown hG (fun e => by injection e with e; omega))
        have u4 := X7.out.free 4
        have y4 := X7.out.cell (k := 4) rfl
        have K8 := hide (K7.out.set (show w.heap.size ≤ X by omega) hg 4 (.int .u64 m))
        have R8 := hide (R7.out.far (p := ⟨X, 4, none⟩) (by simp; omega) (.int .u64 m))
        have X8 := hide (X7.out.set_ 4 (.int .u64 m))
        have EM2 := EM.out
        rw [hm] at EM2 ⊢
        have EM := hide EM2
        clear EM2 hm hR hG K6 R6 X6
        have x0 := X8.out.cell (k := 0) rfl
        have x1 := X8.out.cell (k := 1) rfl
        have x2 := X8.out.cell (k := 2) rfl
        have x3 := X8.out.cell (k := 3) rfl
        have x4 := X8.out.cell (k := 4) rfl
        have r0 := R8.out.cell (k := 0) rfl
        have r1 := R8.out.cell (k := 1) rfl
        have r2 := R8.out.cell (k := 2) rfl
        have r3 := R8.out.cell (k := 3) rfl
        have r4 := R8.out.cell (k := 4) rfl
        have q0 := R8.out.free 0
        have q1 := R8.out.free 1
        have q2 := R8.out.free 2
        have q3 := R8.out.free 3
        have q4 := R8.out.free 4
        have hf := hide (((((R8.out.set_ 0 (.int .i64 o)).set_ 1 (.int .i64 v0)).set_ 2 (.int .i64 v1)).set_ 3 (.int .i64 v2)).set_ 4 (.int .u64 m))
        have KF := hide (((((K8.out.set (Nat.le_refl w.heap.size) hg 0 (.int .i64 o)).set (Nat.le_refl w.heap.size) hg 1 (.int .i64 v0)).set (Nat.le_refl w.heap.size) hg 2 (.int .i64 v1)).set (Nat.le_refl w.heap.size) hg 3 (.int .i64 v2)).set (Nat.le_refl w.heap.size) hg 4 (.int .u64 m))
        go_wp2
        have f0 := hf.out.cell (k := 0) rfl
        have f1 := hf.out.cell (k := 1) rfl
        have f2 := hf.out.cell (k := 2) rfl
        have f3 := hf.out.cell (k := 3) rfl
        have f4 := hf.out.cell (k := 4) rfl
        have F := EM.out _ _ rfl KF.out.r KF.out.g
        refine bodyPost_ret (v := iv o v0 v1 v2 m) ?_ rfl F
        simp [results, Tryd.results102, go_sem, f0, f1, f2, f3, f4]
end Go.Proofs.YtlkcjjalkdlicaaDoor
end

section
/-
  Programs of which one function has been changed: in memory, and as lists. No function of the program is named here.
-/
namespace Go.Proofs.YtlkcjjalkdlicaaDoor
open Go.RowKit

section
variable {w w' : World} {lo lo' B B' n c n' c' i : Nat} {A A' : Option Addr} {hs : List Hd} {F : Pg} {h : Hd} {f : Fn}
/-- One head set anew. -/
theorem PgAt.set (H : PgAt w lo B A n c hs F) (hk : ∀ p : Addr, lo ≤ p.block → p.block < B → w'.cell? p = w.cell? p) (hB : B ≤ B') (hlo : lo' ≤ lo) (hcap : Cap A' n c') (hfar : Far lo' A') (hs' : Sees w' B' A' (hcells (hs.set i h))) (hh : HdAt w' lo' B' h f) : PgAt w' lo' B' A' n c' (hs.set i h) (F.set i f) := by
  refine ⟨by rw [List.length_set]; exact H.len, hcap, hfar, hs', ⟨by rw [List.length_set, List.length_set]; exact H.hd.len, fun k h2 f2 e1 e2 => ?_⟩⟩
  by_cases e : i = k
  · subst e
    have l1 : i < hs.length := by
      rcases Nat.lt_or_ge i hs.length with h1 | h1
      · exact h1
      · rw [List.getElem?_eq_none (by rw [List.length_set]; exact h1)] at e1; cases e1
    have l2 : i < F.length := by rw [← H.hd.len]; exact l1
    rw [List.getElem?_set_self l1] at e1
    rw [List.getElem?_set_self l2] at e2
    injection e1 with e1
    injection e2 with e2
    subst e1 e2
    exact hh
  · rw [List.getElem?_set_ne e] at e1 e2
    exact ((H.hd.at_ k h2 f2 e1 e2).keep hk).more hB hlo
end

/-- The stores of heads into a row of heads. -/
theorem hset2 (hs : List Hd) (i : Nat) (h : Hd) (hx : hs[i]? = some h) (A : Option Addr) (n c : Nat) : (hcells hs).set (i * 3 + 2) (.slice A n c) = hcells (hs.set i ⟨h.p, h.a1, h.n1, h.c1, A, n, c⟩) := flat_set hcell_len hs i h _ hx 2 (by omega) _ rfl
/-- An instruction changed. -/
theorem iset0 {ys : List Ins} {k : Nat} {x : Ins} (hx : ys[k]? = some x) (t : Int) : (icells ys).set (k * 5) (.int .i64 t) = icells (ys.set k ⟨t, x.a, x.b, x.c, x.imm⟩) := flat_set icell_len ys k x _ hx 0 (by omega) _ rfl
theorem iset1 {ys : List Ins} {k : Nat} {x : Ins} (hx : ys[k]? = some x) (t : Int) : (icells ys).set (k * 5 + 1) (.int .i64 t) = icells (ys.set k ⟨x.op, t, x.b, x.c, x.imm⟩) := flat_set icell_len ys k x _ hx 1 (by omega) _ rfl
theorem iset2 {ys : List Ins} {k : Nat} {x : Ins} (hx : ys[k]? = some x) (t : Int) : (icells ys).set (k * 5 + 2) (.int .i64 t) = icells (ys.set k ⟨x.op, x.a, t, x.c, x.imm⟩) := flat_set icell_len ys k x _ hx 2 (by omega) _ rfl
theorem iset3 {ys : List Ins} {k : Nat} {x : Ins} (hx : ys[k]? = some x) (t : Int) : (icells ys).set (k * 5 + 3) (.int .i64 t) = icells (ys.set k ⟨x.op, x.a, x.b, t, x.imm⟩) := flat_set icell_len ys k x _ hx 3 (by omega) _ rfl
theorem iset4 {ys : List Ins} {k : Nat} {x : Ins} (hx : ys[k]? = some x) (t : Int) : (icells ys).set (k * 5 + 4) (.int .u64 t) = icells (ys.set k ⟨x.op, x.a, x.b, x.c, t⟩) := flat_set icell_len ys k x _ hx 4 (by omega) _ rfl
/-- The cells of an element of an owned row. -/
theorem ins_row {w : World} {base G n c : Nat} {t : TypeId} {ys : List Ins} {k : Nat} {x : Ins} (h : w.ownsRow base t 5 (.slice (some ⟨G, 0, none⟩) n c) n (icells ys)) (hx : ys[k]? = some x) :
    (w.cell? ⟨G, k * 5, none⟩ = some (.int .i64 x.op) ∧ w.cell? ⟨G, k * 5 + 1, none⟩ = some (.int .i64 x.a) ∧ w.cell? ⟨G, k * 5 + 2, none⟩ = some (.int .i64 x.b) ∧ w.cell? ⟨G, k * 5 + 3, none⟩ = some (.int .i64 x.c) ∧ w.cell? ⟨G, k * 5 + 4, none⟩ = some (.int .u64 x.imm)) ∧ ∀ j, w.frozen? ⟨G, j, none⟩ = false := by
  have g := fun j hj => flat_at icell_len ys k _ hx j hj
  have c' := fun j u (hu : (icells ys)[j]? = some u) => (by
    have := h.cells (g := G) rfl j u hu
    rwa [WideShapes.add_plain, Nat.zero_add] at this : w.cell? ⟨G, j, none⟩ = some u)
  exact ⟨⟨c' _ _ (g 0 (by omega)), c' _ _ (g 1 (by omega)), c' _ _ (g 2 (by omega)), c' _ _ (g 3 (by omega)), c' _ _ (g 4 (by omega))⟩, fun j => h.frozenAt j⟩
theorem hd_row {w : World} {base G n c : Nat} {t : TypeId} {hs : List Hd} {k : Nat} {x : Hd} (h : w.ownsRow base t 3 (.slice (some ⟨G, 0, none⟩) n c) n (hcells hs)) (hx : hs[k]? = some x) :
    (w.cell? ⟨G, k * 3, none⟩ = some (.int .i64 x.p) ∧ w.cell? ⟨G, k * 3 + 1, none⟩ = some (.slice x.a1 x.n1 x.c1) ∧ w.cell? ⟨G, k * 3 + 2, none⟩ = some (.slice x.a2 x.n2 x.c2)) ∧ ∀ j, w.frozen? ⟨G, j, none⟩ = false := by
  have g := fun j hj => flat_at hcell_len hs k _ hx j hj
  have c' := fun j u (hu : (hcells hs)[j]? = some u) => (by
    have := h.cells (g := G) rfl j u hu
    rwa [WideShapes.add_plain, Nat.zero_add] at this : w.cell? ⟨G, j, none⟩ = some u)
  exact ⟨⟨c' _ _ (g 0 (by omega)), c' _ _ (g 1 (by omega)), c' _ _ (g 2 (by omega))⟩, fun j => h.frozenAt j⟩
theorem hset3 (hs : List Hd) (i : Nat) (h h' : Hd) (hx : hs[i]? = some h) : (((hcells hs).set (i * 3) (.int .i64 h'.p)).set (i * 3 + 1) (.slice h'.a1 h'.n1 h'.c1)).set (i * 3 + 2) (.slice h'.a2 h'.n2 h'.c2) = hcells (hs.set i h') := by
  have hk : i < hs.length := (List.getElem?_eq_some_iff.1 hx).1
  have s0 := flat_set hcell_len hs i h ⟨h'.p, h.a1, h.n1, h.c1, h.a2, h.n2, h.c2⟩ hx 0 (by omega) (.int .i64 h'.p) rfl
  have s1 := flat_set hcell_len (hs.set i ⟨h'.p, h.a1, h.n1, h.c1, h.a2, h.n2, h.c2⟩) i ⟨h'.p, h.a1, h.n1, h.c1, h.a2, h.n2, h.c2⟩ ⟨h'.p, h'.a1, h'.n1, h'.c1, h.a2, h.n2, h.c2⟩ (by rw [List.getElem?_set_self hk]) 1 (by omega) (.slice h'.a1 h'.n1 h'.c1) rfl
  have s2 := flat_set hcell_len (hs.set i ⟨h'.p, h'.a1, h'.n1, h'.c1, h.a2, h.n2, h.c2⟩) i ⟨h'.p, h'.a1, h'.n1, h'.c1, h.a2, h.n2, h.c2⟩ h' (by rw [List.getElem?_set_self hk]) 2 (by omega) (.slice h'.a2 h'.n2 h'.c2) rfl
  rw [List.set_set] at s1 s2
  unfold hcells
  rw [Nat.add_zero] at s0
  rw [s0, s1, s2]
end Go.Proofs.YtlkcjjalkdlicaaDoor
end

section
/-
  Rows that are made and filled element by element. No function of the program is named here.
-/
namespace Go.Proofs.YtlkcjjalkdlicaaDoor
open Go.RowKit

/-- n zero elements. -/
theorem made_flat {α : Type} {f : α → List Value} {a : α} {m : Nat} {z : Array Value} (hm : ∀ a, (f a).length = m) (hz : z.toList = f a) (n : Nat) : madeCells z (n * m) = ((List.replicate n a).flatMap f).toArray := by
  have hzs : z.size = m := by rw [← Array.length_toList, hz, hm]
  apply Array.ext'
  apply List.ext_getElem?
  intro j
  have hl : ((List.replicate n a).flatMap f).length = n * m := by rw [flat_len hm, List.length_replicate]
  by_cases hj : j < n * m
  · have hm0 : 0 < m := by
      rcases Nat.eq_zero_or_pos m with h | h
      · subst h; simp at hj
      · exact h
    have hi : j / m < n := Nat.div_lt_of_lt_mul (by rw [Nat.mul_comm]; exact hj)
    have hr : j % m < m := Nat.mod_lt _ hm0
    have h := flat_at hm (List.replicate n a) (j / m) a (by rw [List.getElem?_replicate, if_pos hi]) (j % m) hr
    rw [Nat.mul_comm, Nat.div_add_mod] at h
    rw [List.toList_toArray, h]
    have h2 : (madeCells z (n * m)).toList[j]? = some (z[j % z.size]!) := by
      simp [madeCells, hj]
    rw [h2, hzs, ← hz, Array.getElem?_toList]
    simp [getElem!_def, hzs, hr]
  · rw [List.getElem?_eq_none (by rw [Array.length_toList, size_madeCells]; omega), List.getElem?_eq_none (by rw [List.toList_toArray, hl]; omega)]
theorem make_flat {P : Program} {t e : TypeId} {i : TypeInfo} {z : Value} {α : Type} {f : α → List Value} {a : α} {m : Nat} (ht : P.underlying t = some (.slice e)) (hi : P.info? e = some i) (hz : i.zero = some z) (hs : i.size = m) (hm : ∀ a, (f a).length = m) (hzc : z.cells.toList = f a) (n : Nat) (hb : i.bytes * n ≤ 140737488355328) (h63 : n ≤ 2147483647) (W : World) :
    (Instr.makeSlice t (.int .i64 (n : Int)) (.int .i64 (n : Int))).run P W = .ok (.slice (some ⟨W.heap.size, 0, none⟩) n n) (W.alloc (.cells ((List.replicate n a).flatMap f).toArray e)) := by
  have h := run_make W t e i _ ht hi hz .i64 .i64 (n : Int) (n : Int) (by omega) (by omega) (by rw [← Int.natCast_mul]; omega) (by omega)
  rw [h, Int.toNat_natCast, hs, made_flat hm hzc n]
theorem fill_set {α : Type} {L : List α} {n i : Nat} {z a : α} (hL : L.length = i) (hi : i < n) : (L ++ List.replicate (n - i) z).set i a = (L ++ [a]) ++ List.replicate (n - (i + 1)) z := by
  rw [List.set_append_right _ _ (by omega), hL, Nat.sub_self, show n - i = (n - (i + 1)) + 1 by omega, List.replicate_succ, List.set_cons_zero, List.append_assoc]
  rfl
theorem fill_at {α : Type} {L : List α} {n i : Nat} {z : α} (hL : L.length = i) (hi : i < n) : (L ++ List.replicate (n - i) z)[i]? = some z := by
  rw [List.getElem?_append_right (by omega), hL, Nat.sub_self, List.getElem?_replicate, if_pos (by omega)]
theorem pcells_set {l : List (Int × Int)} {i : Nat} {x : Int × Int} (h : l[i]? = some x) (s t : Int) : ((pcells l).set (i * 2) (.int .i64 s)).set (i * 2 + 1) (.int .i64 t) = pcells (l.set i (s, t)) := by
  have hk : i < l.length := (List.getElem?_eq_some_iff.1 h).1
  have hl : ∀ u : Int × Int, ([Value.int .i64 u.1, .int .i64 u.2] : List Value).length = 2 := fun _ => rfl
  have s0 := flat_set hl l i x (s, x.2) h 0 (by omega) (.int .i64 s) rfl
  have s1 := flat_set hl (l.set i (s, x.2)) i (s, x.2) (s, t) (by rw [List.getElem?_set_self hk]) 1 (by omega) (.int .i64 t) rfl
  rw [List.set_set] at s1
  unfold pcells
  rw [Nat.add_zero] at s0
  rw [s0, s1]
theorem icells_set {l : List Ins} {i : Nat} {x : Ins} (h : l[i]? = some x) (o a b c m : Int) :
    (((((icells l).set (i * 5) (.int .i64 o)).set (i * 5 + 1) (.int .i64 a)).set (i * 5 + 2) (.int .i64 b)).set (i * 5 + 3) (.int .i64 c)).set (i * 5 + 4) (.int .u64 m) = icells (l.set i ⟨o, a, b, c, m⟩) := by
  have hk : i < l.length := (List.getElem?_eq_some_iff.1 h).1
  have s0 := flat_set icell_len l i x ⟨o, x.a, x.b, x.c, x.imm⟩ h 0 (by omega) (.int .i64 o) rfl
  have s1 := flat_set icell_len (l.set i ⟨o, x.a, x.b, x.c, x.imm⟩) i ⟨o, x.a, x.b, x.c, x.imm⟩ ⟨o, a, x.b, x.c, x.imm⟩ (by rw [List.getElem?_set_self hk]) 1 (by omega) (.int .i64 a) rfl
  have s2 := flat_set icell_len (l.set i ⟨o, a, x.b, x.c, x.imm⟩) i ⟨o, a, x.b, x.c, x.imm⟩ ⟨o, a, b, x.c, x.imm⟩ (by rw [List.getElem?_set_self hk]) 2 (by omega) (.int .i64 b) rfl
  have s3 := flat_set icell_len (l.set i ⟨o, a, b, x.c, x.imm⟩) i ⟨o, a, b, x.c, x.imm⟩ ⟨o, a, b, c, x.imm⟩ (by rw [List.getElem?_set_self hk]) 3 (by omega) (.int .i64 c) rfl
  have s4 := flat_set icell_len (l.set i ⟨o, a, b, c, x.imm⟩) i ⟨o, a, b, c, x.imm⟩ ⟨o, a, b, c, m⟩ (by rw [List.getElem?_set_self hk]) 4 (by omega) (.int .u64 m) rfl
  rw [List.set_set] at s1 s2 s3 s4
  unfold icells
  rw [Nat.add_zero] at s0
  rw [s0, s1, s2, s3, s4]

theorem dinfo_slot : (Tryd.prog.info? 144).map (fun i => (i.zero, i.size, i.bytes)) = some (some (.agg #[.int .i64 0, .int .i64 0]), 2, 16) := by kernel_rfl
theorem dinfo_instr : (Tryd.prog.info? 65).map (fun i => (i.zero, i.size, i.bytes)) = some (some (.agg #[.int .i64 0, .int .i64 0, .int .i64 0, .int .i64 0, .int .u64 0]), 5, 40) := by kernel_rfl
end Go.Proofs.YtlkcjjalkdlicaaDoor
end
