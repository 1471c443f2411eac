import Derived.Test.YtidlnecgfgnllaaDoorMLcg
set_option linter.unusedVariables false
set_option linter.unusedSimpArgs false
section
/-
  The contract of the law package's awake (chapter 17): it returns true. Conditions: the table of TrailingZeros64 lies as its initialiser lays it.
-/
namespace Go.Proofs.YtidlnecgfgnllaaDoor
open Go.RowKit

def awC : List Ins := [⟨16, 0, 0, 0, 0⟩, ⟨15, 0, 0, 0, 0⟩, ⟨23, 0, 0, 0, 0⟩]
theorem awC_ok : LvOk awC 1 := by
  refine ⟨⟨by decide, fun k x hx ho => ?_, fun k x hx ho => ?_, fun k x hx ho => ?_⟩, fun k x hx hu => ?_, fun k x hx hu => ?_, by omega⟩
  all_goals
    rcases k with _ | _ | _ | k
    · injection hx with hx; subst hx; first | (exact absurd ho (by decide)) | (exact absurd hu (by decide)) | decide
    · injection hx with hx; subst hx; first | (exact absurd ho (by decide)) | (exact absurd hu (by decide)) | decide
    · injection hx with hx; subst hx; first | (exact absurd ho (by decide)) | (exact absurd hu (by decide)) | decide
    · cases hx
theorem aw_yes : okL awC 1 [[0], [], []] = true := by kernel_rfl
theorem aw_no : okL awC 1 [[], [], []] = false := by kernel_rfl
theorem ann_three {V : World} {g : Nat} {A B C : Option Addr} {c d e : Nat} {za zb zc : List Int} (hr : Row V g 42 [.slice A za.length c, .slice B zb.length d, .slice C zc.length e]) (h1 : Lst V A za.length za) (h2 : Lst V B zb.length zb) (h3 : Lst V C zc.length zc) (n1 : A = none → c = 0) (n2 : B = none → d = 0) (n3 : C = none → e = 0) :
    Ann V (some ⟨g, 0, none⟩) 3 [za, zb, zc] := by
  refine ⟨rfl, by omega, _, fun k u hu => ⟨g, 0, rfl, hr.lt, by rw [Nat.zero_add]; exact hr.cell hu⟩, rfl, fun i v zs hv hz => ?_⟩
  rcases i with _ | _ | _ | i
  · injection hv with hv; injection hz with hz; subst hv hz; exact ⟨A, c, rfl, h1, n1⟩
  · injection hv with hv; injection hz with hz; subst hv hz; exact ⟨B, d, rfl, h2, n2⟩
  · injection hv with hv; injection hz with hz; subst hv hz; exact ⟨C, e, rfl, h3, n3⟩
  · cases hz
theorem lst_none (w : World) (A : Option Addr) : Lst w A 0 [] := ⟨rfl, by omega, Sees.nil_ _ _ _, fun z h => by cases h⟩
set_option maxHeartbeats 2000000 in
theorem awake17_any (w : World) (hT : Hid (Tab w)) : Calls Tryd.prog 8 #[] w fun e w' => e = .returned (.bool true) ∧ Below w.heap.size w w' := by
  obtain ⟨W3, hW3⟩ : ∃ W, ((w.alloc (.cells #[.int .i64 8, .int .i64 8] 51)).alloc (.cells #[.int .i64 16, .int .i64 0, .int .i64 0, .int .i64 0, .int .u64 0, .int .i64 15, .int .i64 0, .int .i64 0, .int .i64 0, .int .u64 0, .int .i64 23, .int .i64 0, .int .i64 0, .int .i64 0, .int .u64 0] 54)).alloc (.cells #[.int .i64 0, .slice (some ⟨w.heap.size, 0, none⟩) 1 1, .slice (some ⟨w.heap.size + 1, 0, none⟩) 3 3] 30) = W := ⟨_, rfl⟩
  have HW3 := hide hW3
  have R1 := hide (show Row W3 (w.heap.size + 1) 54 (icells awC) by rw [← hW3]; exact ((Row.new _ _ (icells awC)).at_ (by simp)).alloc _)
  have F3 := hide (show Row W3 (w.heap.size + 1 + 1) 30 [.int .i64 0, .slice (some ⟨w.heap.size, 0, none⟩) 1 1, .slice (some ⟨w.heap.size + 1, 0, none⟩) 3 3] by rw [← hW3]; exact (Row.new _ _ _).at_ (by simp))
  have B3 := hide (show Below w.heap.size w W3 by rw [← hW3]; exact below3 w _ _ _)
  have HC := hide (show CdAt W3 (some ⟨w.heap.size + 1, 0, none⟩) 3 awC from ⟨rfl, by decide, fun k u hu => ⟨w.heap.size + 1, 0, rfl, R1.out.lt, by rw [Nat.zero_add]; exact R1.out.cell hu⟩⟩)
  obtain ⟨W4, hW4⟩ : ∃ W, W3.alloc (.cells #[.int .i64 0] 3) = W := ⟨_, rfl⟩
  obtain ⟨W6, hW6⟩ : ∃ W, (W4.alloc (.cells #[] 3)).alloc (.cells #[] 3) = W := ⟨_, rfl⟩
  obtain ⟨W7, hW7⟩ : ∃ W, W6.alloc (.cells #[.slice (some ⟨W3.heap.size, 0, none⟩) 1 1, .slice (some ⟨W3.heap.size + 1, 0, none⟩) 0 0, .slice (some ⟨W3.heap.size + 1 + 1, 0, none⟩) 0 0] 42) = W := ⟨_, rfl⟩
  have hb4 : Below W3.heap.size W3 W4 := by rw [← hW4]; exact below1 _ _
  have hb6 : Below W4.heap.size W4 W6 := by rw [← hW6]; exact below2 _ _ _
  have hb7 : Below W6.heap.size W6 W7 := by rw [← hW7]; exact below1 _ _
  have hs4 : W4.heap.size = W3.heap.size + 1 := by rw [← hW4]; simp
  have hs6 : W6.heap.size = W3.heap.size + 3 := by rw [← hW6]; simp [hs4]
  have h0 : Row W7 W3.heap.size 3 (cellsI [0]) := ((show Row W4 W3.heap.size 3 (cellsI [0]) by rw [← hW4]; exact Row.new W3 _ (cellsI [0])).call hb6).call hb7
  have hr : Row W7 (W3.heap.size + 1 + 1 + 1) 42 [.slice (some ⟨W3.heap.size, 0, none⟩) 1 1, .slice (some ⟨W3.heap.size + 1, 0, none⟩) 0 0, .slice (some ⟨W3.heap.size + 1 + 1, 0, none⟩) 0 0] := by rw [← hW7]; exact (Row.new W6 _ _).at_ hs6
  have hA : Ann W7 (some ⟨W3.heap.size + 1 + 1 + 1, 0, none⟩) 3 [[0], [], []] := ann_three (za := [0]) (zb := []) (zc := []) hr ⟨rfl, by simp, fun k u hu => ⟨W3.heap.size, 0, rfl, h0.lt, by rw [Nat.zero_add]; exact h0.cell hu⟩, fun z h => by simp at h; omega⟩ (lst_none _ _) (lst_none _ _) (fun e => by cases e) (fun e => by cases e) (fun e => by cases e)
  have B7 := hide (below_call (below_call hb4 hb6) hb7)
  have cc := lcheck_any (P := 0) (A1 := some ⟨w.heap.size, 0, none⟩) (n1 := 1) (c1 := 1) (c2 := 3) (cL := 3) W7 (hide (HC.out.below B7.out)) (hide awC_ok) (hide hA) (hide (hT.out.below (below_call B3.out B7.out)))
  rw [aw_yes, if_pos rfl] at cc
  have HWW := hide (show (((W3.alloc (.cells #[.int .i64 0] 3)).alloc (.cells #[] 3)).alloc (.cells #[] 3)).alloc (.cells #[.slice (some ⟨W3.heap.size, 0, none⟩) 1 1, .slice (some ⟨W3.heap.size + 1, 0, none⟩) 0 0, .slice (some ⟨W3.heap.size + 1 + 1, 0, none⟩) 0 0] 42) = W7 by rw [hW4, hW6, hW7])
  have q0 := F3.out.cell (k := 0) rfl
  have q1 := F3.out.cell (k := 1) rfl
  have q2 := F3.out.cell (k := 2) rfl
  clear hW3 hW4 hW6 hW7 hb4 hb6 hb7 hs4 hs6 h0 hr hA
  go_enter Tryd.func8, Tryd.ntmps8
  go_upto_region 2 with (fail)
  rw [HW3.out]
  go_wp2_with fail
  rw [HWW.out]
  clear q0 q1 q2
  refine cc.mono ?_
  rintro e w8 ⟨rfl, hb8⟩
  have B8 := hide (below_call B7.out hb8)
  have F8 := hide (F3.out.call B8.out)
  have q0 := F8.out.cell (k := 0) rfl
  have q1 := F8.out.cell (k := 1) rfl
  have q2 := F8.out.cell (k := 2) rfl
  obtain ⟨V6, hV6⟩ : ∃ W, ((w8.alloc (.cells #[] 3)).alloc (.cells #[] 3)).alloc (.cells #[] 3) = W := ⟨_, rfl⟩
  obtain ⟨V7, hV7⟩ : ∃ W, V6.alloc (.cells #[.slice (some ⟨w8.heap.size, 0, none⟩) 0 0, .slice (some ⟨w8.heap.size + 1, 0, none⟩) 0 0, .slice (some ⟨w8.heap.size + 1 + 1, 0, none⟩) 0 0] 42) = W := ⟨_, rfl⟩
  have hb6 : Below w8.heap.size w8 V6 := by rw [← hV6]; exact below3 _ _ _ _
  have hb7 : Below V6.heap.size V6 V7 := by rw [← hV7]; exact below1 _ _
  have hs6 : V6.heap.size = w8.heap.size + 3 := by rw [← hV6]; simp
  have hr : Row V7 (w8.heap.size + 1 + 1 + 1) 42 [.slice (some ⟨w8.heap.size, 0, none⟩) 0 0, .slice (some ⟨w8.heap.size + 1, 0, none⟩) 0 0, .slice (some ⟨w8.heap.size + 1 + 1, 0, none⟩) 0 0] := by rw [← hV7]; exact (Row.new V6 _ _).at_ hs6
  have hA : Ann V7 (some ⟨w8.heap.size + 1 + 1 + 1, 0, none⟩) 3 [[], [], []] := ann_three (za := []) (zb := []) (zc := []) hr (lst_none _ _) (lst_none _ _) (lst_none _ _) (fun e => by cases e) (fun e => by cases e) (fun e => by cases e)
  have C7 := hide (below_call B8.out (below_call hb6 hb7))
  have cd := lcheck_any (P := 0) (A1 := some ⟨w.heap.size, 0, none⟩) (n1 := 1) (c1 := 1) (c2 := 3) (cL := 3) V7 (hide (HC.out.below C7.out)) (hide awC_ok) (hide hA) (hide (hT.out.below (below_call B3.out C7.out)))
  rw [aw_no, if_neg (by decide)] at cd
  have HVV := hide (show (((w8.alloc (.cells #[] 3)).alloc (.cells #[] 3)).alloc (.cells #[] 3)).alloc (.cells #[.slice (some ⟨w8.heap.size, 0, none⟩) 0 0, .slice (some ⟨w8.heap.size + 1, 0, none⟩) 0 0, .slice (some ⟨w8.heap.size + 1 + 1, 0, none⟩) 0 0] 42) = V7 by rw [hV6, hV7])
  clear hV6 hV7 hb6 hb7 hs6 hr hA hb8 cc HWW
  go_wp2_with fail
  rw [HVV.out]
  clear q0 q1 q2
  refine cd.mono ?_
  rintro e w9 ⟨rfl, hb9⟩
  have HF := hide (below_call B3.out (below_call C7.out hb9))
  clear cd hb9 HVV
  go_wp2_with fail
  go_ret
  exact ⟨rfl, HF.out⟩
end Go.Proofs.YtidlnecgfgnllaaDoor
end
