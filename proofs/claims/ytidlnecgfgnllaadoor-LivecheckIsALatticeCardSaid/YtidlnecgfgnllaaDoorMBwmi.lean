import Derived.Test.YtidlnecgfgnllaaDoorMBtz
import Derived.Test.YtidlnecgfgnllaaDoorMBof
import Derived.Test.YtidlnecgfgnllaaDoorMOwr
import Derived.Test.YtidlnecgfgnllaaDoorMFgr
import Derived.Test.YtidlnecgfgnllaaDoorMPmath
import Derived.Outline
import Derived.Deep.DeepCutAuto
set_option linter.unusedVariables false
set_option linter.unusedSimpArgs false
section
/-
  The contract of a method of bitset.set[int] on whole sets: mminus. Conditions: those of the types.
-/
namespace Go.Proofs.YtidlnecgfgnllaaDoor
open Go.RowKit
set_option maxHeartbeats 400000 in
theorem mminus_any (g N M : Nat) (w : World) (h : Hid (SetB w g N)) : Calls Tryd.prog 53 #[.pointer (some ⟨g, 0, none⟩), sv (wd M)] w (WritePost g (diff N M) w) := by
  go_enter Tryd.func53, Tryd.ntmps53
  go_wp2_with fail
  go_loopw [8] (fun i wr => Hid (MixRel diff g N M w i wr)) (fun i _ => 8 - (intOf i).toNat)
  case atStart => exact hide ⟨0, by omega, rfl, by rw [mix_start]; exact Row.alloc h.out _, World.grownBy_alloc _ _ _⟩
  case round =>
    obtain ⟨k, hk, rfl, hr, hg⟩ := hrel.out
    have HR := hide hr
    have HG := hide hg
    by_cases hlt : k < 8
    · have hi := index8 (wd M) hlt
      have hd : decide ((k : Int) < 8) = true := decide_eq_true (by omega)
      have c := Row.cell hr (w8_at (mixF diff N M k) hlt)
      rw [mix_at] at c
      have z := Row.free hr k
      have e := u64_diff_nat _ _ (wd_lt N k) (wd_lt M k)
      have K := hide (show (w8 (mixF diff N M k)).set k (.int .u64 ((diff (wd N k) (wd M k) : Nat) : Int)) = w8 (mixF diff N M (k + 1)) from mix_set diff N M hlt)
      have hk0 : (0 : Int) ≤ (k : Int) := by omega
      have hk8 : (k : Int) < 8 := by omega
      generalize diff (wd N k) (wd M k) = y at e K
      clear hrel hr hg
      go_wp2_with fail
      go_region
      all_goals
        go_wp2_with fail
        go_roundw
        case rel => exact hide (MixRel.next hlt HR K HG)
        case measure => simp [intOf]; omega
    · obtain rfl : k = 8 := by omega
      clear hr hg hrel
      go_wp2_with fail
      go_end0
      refine ⟨rfl, ?_, HG.out⟩
      have := HR.out
      rw [mix_end] at this
      show Row _ _ _ _
      rw [w8_congr (g := fun i => diff (wd N i) (wd M i)) fun i _ => wd_diff N M i]
      exact this


end Go.Proofs.YtidlnecgfgnllaaDoor
end

section
/-
  The contract of a function of package bitset, for any lists and in the reference's words: minus. Conditions: those of the types; the table of TrailingZeros64 lies as its initialiser lays it.
-/
namespace Go.Proofs.YtidlnecgfgnllaaDoor
open Go.RowKit
set_option maxHeartbeats 400000 in
theorem top_minus_any (A : Option Addr) (n c : Nat) (zs : List Int) (A' : Option Addr) (n' c' : Nat) (ys : List Int) (w : World) (h : Hid (Lst w A n zs)) (h' : Hid (Lst w A' n' ys)) (hT : Hid (Tab w)) : Calls Tryd.prog 34 #[.slice A n c, .slice A' n' c'] w (OutPost (els (diff (bs zs) (bs ys))) w) := by
  have c0 := h.out.of c
  obtain ⟨N0, eN⟩ : ∃ N0, bs zs = N0 := ⟨_, rfl⟩
  obtain ⟨M0, eM⟩ : ∃ M0, bs ys = M0 := ⟨_, rfl⟩
  rw [eN] at c0 ⊢
  rw [eM]
  have EM := hide eM
  clear eN eM
  go_enter Tryd.func34, Tryd.ntmps34
  go_wp2_with fail
  refine c0.mono ?_
  rintro e w1 ⟨rfl, hb1⟩
  clear c0
  have HB1 := hide hb1
  clear hb1
  go_wp2_with fail
  have hS1 := hide (SetB.made w1 N0)
  have HB2 := hide (below_call HB1.out (below1 w1 (.cells #[.int .u64 (wd N0 0 : Nat), .int .u64 (wd N0 1 : Nat), .int .u64 (wd N0 2 : Nat), .int .u64 (wd N0 3 : Nat), .int .u64 (wd N0 4 : Nat), .int .u64 (wd N0 5 : Nat), .int .u64 (wd N0 6 : Nat), .int .u64 (wd N0 7 : Nat)] 80)))
  have hg1 : w.heap.size ≤ w1.heap.size := HB1.out.size
  have h2 := h'.out.below HB2.out
  have c1 := h2.of c'
  rw [EM.out] at c1
  refine c1.mono ?_
  rintro e w2 ⟨rfl, hb2⟩
  have hS2 := hide (hS1.out.call hb2)
  have HB3 := hide (below_call HB2.out hb2)
  clear c1 hb2 h2 hS1 HB2
  go_wp2_with fail
  refine (mminus_any w1.heap.size N0 M0 _ hS2).mono ?_
  rintro e w5 hP
  have HS5 := hide hP.2.1
  have HB5 := hide (below_write HB3.out hP hg1)
  obtain ⟨rfl, -, -⟩ := hP
  clear hS2 HB3
  go_wp2_with fail
  refine (list_any w1.heap.size (diff (N0) (M0)) _ HS5 (hide (hT.out.below HB5.out))).mono ?_
  rintro e w' hP
  obtain ⟨A2, c2, rfl, -, -⟩ := id hP
  have HP := hide (hP.lift HB5.out)
  clear hP HS5
  go_wp2_with fail
  go_ret
  exact HP.out
section
variable {A A' : Option Addr} {n n' : Nat} {a b r : List Int} {w : World}
theorem t_minus (c c' : Nat) (h : Hid (Lst w A n a)) (h' : Hid (Lst w A' n' b)) (ha : Hid (Asc a)) (hT : Hid (Tab w)) (hr : Hid (minusL a b = r)) : Calls Tryd.prog 34 #[.slice A n c, .slice A' n' c'] w (OutPost r w) := by
  have := top_minus_any A n c a A' n' c' b w h h' hT
  rwa [els_minus ha.out, hr.out] at this
end
end Go.Proofs.YtidlnecgfgnllaaDoor
end

section
/-
  The contract of sir.Terminator. No condition.
-/
namespace Go.Proofs.YtidlnecgfgnllaaDoor
open Go.RowKit

theorem term_any (op : Int) (w : World) : Calls Tryd.prog 68 #[.int .i64 op] w fun e w' => e = .returned (.bool (termB op)) ∧ w = w' := by
  by_cases h1 : op = 20
  · subst h1
    go_enter Tryd.func68, Tryd.ntmps68
    go_wp2_with fail
    go_ret
    exact ⟨rfl, rfl⟩
  · by_cases h2 : op = 23
    · subst h2
      go_enter Tryd.func68, Tryd.ntmps68
      go_wp2_with fail
      go_ret
      exact ⟨rfl, rfl⟩
    · have b1 : (op == 20) = false := by simpa using h1
      have b2 : (op == 23) = false := by simpa using h2
      have e := hide (show termB op = (op == 24) by simp [termB, b1, b2])
      clear h1 h2
      go_enter Tryd.func68, Tryd.ntmps68
      go_wp2_with fail
      go_ret
      exact ⟨ret_bool e.out.symm, rfl⟩
end Go.Proofs.YtidlnecgfgnllaaDoor
end

section
/-
  The contracts of flow.exists and flow.target. 'CdAt w A n l': at the slice A stand the n instructions l. Conditions: those of the types.
-/
namespace Go.Proofs.YtidlnecgfgnllaaDoor
open Go.RowKit

/-- A function's code that can be read. -/
structure CdAt (w : World) (A : Option Addr) (n : Nat) (l : List Ins) : Prop where
  len : l.length = n
  few : n ≤ 1024
  see : Sees w w.heap.size A (icells l)
theorem CdAt.below {w w' : World} {A : Option Addr} {n : Nat} {l : List Ins} (h : CdAt w A n l) (hb : Below w.heap.size w w') : CdAt w' A n l := ⟨h.len, h.few, (h.see.below hb).more hb.size⟩
theorem exists_any (P : Int) (A1 : Option Addr) (n1 c1 : Nat) (A2 : Option Addr) (n2 c2 : Nat) (k : Int) (w : World) :
    Calls Tryd.prog 67 #[fv P A1 n1 c1 A2 n2 c2, .int .i64 k] w fun e w' => e = .returned (.bool (withB k n2)) ∧ Below w.heap.size w w' := by
  by_cases h : 0 ≤ k
  · go_enter Tryd.func67, Tryd.ntmps67
    go_wp2_with fail
    go_ret
    exact ⟨ret_bool (by simp [withB, h]), below1 _ _⟩
  · have hd : decide (0 ≤ k) = false := by simpa using h
    go_enter Tryd.func67, Tryd.ntmps67
    go_wp2_with fail
    go_ret
    exact ⟨ret_bool (by simp [withB, hd]), below1 _ _⟩
set_option maxHeartbeats 1000000 in
theorem target_any (P : Int) (A1 : Option Addr) (n1 c1 : Nat) (A2 : Option Addr) (n2 c2 : Nat) (l : List Ins) (k : Nat) (x : Ins) (w : World) (hC : Hid (CdAt w A2 n2 l)) (hx : Hid (l[k]? = some x)) :
    Calls Tryd.prog 69 #[fv P A1 n1 c1 A2 n2 c2, .int .i64 (k : Int)] w fun e w' => e = .returned (.tuple #[.int .i64 (tgtX x), .bool (withB (tgtX x) n2)]) ∧ Below w.heap.size w w' := by
  obtain ⟨hk, hxe⟩ := List.getElem?_eq_some_iff.1 hx.out
  have hkn : (k : Int) < (n2 : Int) := by have := hC.out.len; omega
  have hn2 := hC.out.few
  obtain ⟨b, off, rfl, hb, x0, x1, x2, x3, x4⟩ := ins_at hC.out.see hk
  rw [hxe] at x0 x1 x2 x3 x4
  obtain ⟨W1, hW1⟩ : ∃ W, w.alloc (.cells #[.int .i64 P, .slice A1 n1 c1, .slice (some ⟨b, off, none⟩) n2 c2] 30) = W := ⟨_, rfl⟩
  have R1 := hide (show Row W1 w.heap.size 30 [.int .i64 P, .slice A1 n1 c1, .slice (some ⟨b, off, none⟩) n2 c2] by rw [← hW1]; exact Row.new w _ _)
  have B1 := hide (show Below w.heap.size w W1 by rw [← hW1]; exact below1 w _)
  have HW1 := hide hW1
  have y0 := keep_cellB B1.out x0
  have y1 := keep_cellB B1.out x1
  have y2 := keep_cellB B1.out x2
  have y3 := keep_cellB B1.out x3
  have y4 := keep_cellB B1.out x4
  have q0 := R1.out.cell (k := 0) rfl
  have q1 := R1.out.cell (k := 1) rfl
  have q2 := R1.out.cell (k := 2) rfl
  obtain ⟨W2, hW2⟩ : ∃ W, W1.alloc (.cells #[.int .i64 x.op, .int .i64 x.a, .int .i64 x.b, .int .i64 x.c, .int .u64 x.imm] 54) = W := ⟨_, rfl⟩
  have HW2 := hide hW2
  have B2 := hide (show Below W1.heap.size W1 W2 by rw [← hW2]; exact below1 W1 _)
  have r0 := keep_cellB B2.out q0
  have r1 := keep_cellB B2.out q1
  have r2 := keep_cellB B2.out q2
  have ce := fun (z : Int) => exists_any P A1 n1 c1 (some ⟨b, off, none⟩) n2 c2 z W2
  obtain ⟨t, ht⟩ : ∃ t, tgtX x = t := ⟨_, rfl⟩
  rw [ht]
  have HT := hide (show (x.op = 20 → x.a = t) ∧ (x.op = 21 → x.b = t) ∧ (x.op ≠ 20 → x.op ≠ 21 → t = -1) by
    unfold tgtX at ht
    refine ⟨fun h => by rw [if_pos h] at ht; exact ht, fun h => by rw [if_neg (by omega), if_pos h] at ht; exact ht, fun h1 h2 => by rw [if_neg h1, if_neg h2] at ht; exact ht.symm⟩)
  clear hW1 hW2 x0 x1 x2 x3 x4 ht hk hxe hb
  go_enter Tryd.func69, Tryd.ntmps69
  go_upto_region 1 with (fail)
  rw [HW1.out]
  go_upto_region 3 with (fail)
  rw [HW2.out]
  have z0 : W2.cell? ⟨W1.heap.size, 0, none⟩ = some (.int .i64 x.op) := by rw [← HW2.out]; exact (Row.new W1 54 [.int .i64 x.op, .int .i64 x.a, .int .i64 x.b, .int .i64 x.c, .int .u64 x.imm]).cell rfl
  have z1 : W2.cell? ⟨W1.heap.size, 1, none⟩ = some (.int .i64 x.a) := by rw [← HW2.out]; exact (Row.new W1 54 [.int .i64 x.op, .int .i64 x.a, .int .i64 x.b, .int .i64 x.c, .int .u64 x.imm]).cell rfl
  have z2 : W2.cell? ⟨W1.heap.size, 2, none⟩ = some (.int .i64 x.b) := by rw [← HW2.out]; exact (Row.new W1 54 [.int .i64 x.op, .int .i64 x.a, .int .i64 x.b, .int .i64 x.c, .int .u64 x.imm]).cell rfl
  clear y0 y1 y2 y3 y4 q0 q1 q2 HW1 HW2
  by_cases h20 : x.op = 20
  · have ha := HT.out.1 h20
    rw [h20] at z0
    rw [ha] at z1
    clear HT h20 ha
    go_wp2_with fail
    refine (ce t).mono ?_
    rintro e w' ⟨rfl, hb'⟩
    have HB := hide (below_call B1.out (below_call B2.out hb'))
    clear hb' ce
    go_wp2_with fail
    go_ret2
    exact ⟨rfl, HB.out⟩
  · by_cases h21 : x.op = 21
    · have ha := HT.out.2.1 h21
      rw [h21] at z0
      rw [ha] at z2
      clear HT h20 h21 ha
      go_wp2_with fail
      refine (ce t).mono ?_
      rintro e w' ⟨rfl, hb'⟩
      have HB := hide (below_call B1.out (below_call B2.out hb'))
      clear hb' ce
      go_wp2_with fail
      go_ret2
      exact ⟨rfl, HB.out⟩
    · obtain rfl := HT.out.2.2 h20 h21
      have e20 : (x.op == 20) = false := by rw [beq_eq_false_iff_ne]; exact h20
      have e21 : (x.op == 21) = false := by rw [beq_eq_false_iff_ne]; exact h21
      clear HT h20 h21
      go_wp2_with fail
      refine (ce (-1)).mono ?_
      rintro e w' ⟨rfl, hb'⟩
      have HB := hide (below_call B1.out (below_call B2.out hb'))
      clear hb' ce
      go_wp2_with fail
      go_ret2
      exact ⟨rfl, HB.out⟩
end Go.Proofs.YtidlnecgfgnllaaDoor
end
