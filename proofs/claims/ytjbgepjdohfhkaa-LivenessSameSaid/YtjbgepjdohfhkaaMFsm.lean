import Derived.Test.YtjbgepjdohfhkaaMPmath
import Derived.Test.YtjbgepjdohfhkaaMHdef
import Derived.Test.YtjbgepjdohfhkaaMPmem
import Derived.Test.YtjbgepjdohfhkaaMLeaf
import Derived.Deep.DeepCutAuto
set_option linter.unusedVariables false
set_option linter.unusedSimpArgs false
section
/-
  The contracts of flow.exists and flow.target. 'CdAt w A n l': at the slice A stand the n instructions l. Conditions: those of the types.
-/
namespace Go.Proofs.Ytjbgepjdohfhkaa
open Go.RowKit

/-- A function's code that can be read. -/
structure CdAt (w : World) (A : Option Addr) (n : Nat) (l : List Ins) : Prop where
  len : l.length = n
  few : n ≤ 1024
  see : Sees w w.heap.size A (icells l)
theorem CdAt.below {w w' : World} {A : Option Addr} {n : Nat} {l : List Ins} (h : CdAt w A n l) (hb : Below w.heap.size w w') : CdAt w' A n l := ⟨h.len, h.few, (h.see.below hb).more hb.size⟩
theorem exists_any (P : Int) (A1 : Option Addr) (n1 c1 : Nat) (A2 : Option Addr) (n2 c2 : Nat) (k : Int) (w : World) :
    Calls Try.prog 49 #[fv P A1 n1 c1 A2 n2 c2, .int .i64 k] w fun e w' => e = .returned (.bool (withB k n2)) ∧ Below w.heap.size w w' := by
  by_cases h : 0 ≤ k
  · go_enter Try.func49, Try.ntmps49
    go_wp2_with fail
    go_ret
    exact ⟨ret_bool (by simp [withB, h]), below1 _ _⟩
  · have hd : decide (0 ≤ k) = false := by simpa using h
    go_enter Try.func49, Try.ntmps49
    go_wp2_with fail
    go_ret
    exact ⟨ret_bool (by simp [withB, hd]), below1 _ _⟩
set_option maxHeartbeats 1000000 in
theorem target_any (P : Int) (A1 : Option Addr) (n1 c1 : Nat) (A2 : Option Addr) (n2 c2 : Nat) (l : List Ins) (k : Nat) (x : Ins) (w : World) (hC : Hid (CdAt w A2 n2 l)) (hx : Hid (l[k]? = some x)) :
    Calls Try.prog 51 #[fv P A1 n1 c1 A2 n2 c2, .int .i64 (k : Int)] w fun e w' => e = .returned (.tuple #[.int .i64 (tgtX x), .bool (withB (tgtX x) n2)]) ∧ Below w.heap.size w w' := by
  obtain ⟨hk, hxe⟩ := List.getElem?_eq_some_iff.1 hx.out
  have hkn : (k : Int) < (n2 : Int) := by have := hC.out.len; omega
  have hn2 := hC.out.few
  obtain ⟨b, off, rfl, hb, x0, x1, x2, x3, x4⟩ := ins_at hC.out.see hk
  rw [hxe] at x0 x1 x2 x3 x4
  obtain ⟨W1, hW1⟩ : ∃ W, w.alloc (.cells #[.int .i64 P, .slice A1 n1 c1, .slice (some ⟨b, off, none⟩) n2 c2] 27) = W := ⟨_, rfl⟩
  have R1 := hide (show Row W1 w.heap.size 27 [.int .i64 P, .slice A1 n1 c1, .slice (some ⟨b, off, none⟩) n2 c2] by rw [← hW1]; exact Row.new w _ _)
  have B1 := hide (show Below w.heap.size w W1 by rw [← hW1]; exact below1 w _)
  have HW1 := hide hW1
  have y0 := keep_cellB B1.out x0
  have y1 := keep_cellB B1.out x1
  have y2 := keep_cellB B1.out x2
  have y3 := keep_cellB B1.out x3
  have y4 := keep_cellB B1.out x4
  have q0 := R1.out.cell (k := 0) rfl
  have q1 := R1.out.cell (k := 1) rfl
  have q2 := R1.out.cell (k := 2) rfl
  obtain ⟨W2, hW2⟩ : ∃ W, W1.alloc (.cells #[.int .i64 x.op, .int .i64 x.a, .int .i64 x.b, .int .i64 x.c, .int .u64 x.imm] 45) = W := ⟨_, rfl⟩
  have HW2 := hide hW2
  have B2 := hide (show Below W1.heap.size W1 W2 by rw [← hW2]; exact below1 W1 _)
  have r0 := keep_cellB B2.out q0
  have r1 := keep_cellB B2.out q1
  have r2 := keep_cellB B2.out q2
  have ce := fun (z : Int) => exists_any P A1 n1 c1 (some ⟨b, off, none⟩) n2 c2 z W2
  obtain ⟨t, ht⟩ : ∃ t, tgtX x = t := ⟨_, rfl⟩
  rw [ht]
  have HT := hide (show (x.op = 20 → x.a = t) ∧ (x.op = 21 → x.b = t) ∧ (x.op ≠ 20 → x.op ≠ 21 → t = -1) by
    unfold tgtX at ht
    refine ⟨fun h => by rw [if_pos h] at ht; exact ht, fun h => by rw [if_neg (by omega), if_pos h] at ht; exact ht, fun h1 h2 => by rw [if_neg h1, if_neg h2] at ht; exact ht.symm⟩)
  clear hW1 hW2 x0 x1 x2 x3 x4 ht hk hxe hb
  go_enter Try.func51, Try.ntmps51
  go_upto_region 1 with (fail)
  rw [HW1.out]
  go_upto_region 3 with (fail)
  rw [HW2.out]
  have z0 : W2.cell? ⟨W1.heap.size, 0, none⟩ = some (.int .i64 x.op) := by rw [← HW2.out]; exact (Row.new W1 45 [.int .i64 x.op, .int .i64 x.a, .int .i64 x.b, .int .i64 x.c, .int .u64 x.imm]).cell rfl
  have z1 : W2.cell? ⟨W1.heap.size, 1, none⟩ = some (.int .i64 x.a) := by rw [← HW2.out]; exact (Row.new W1 45 [.int .i64 x.op, .int .i64 x.a, .int .i64 x.b, .int .i64 x.c, .int .u64 x.imm]).cell rfl
  have z2 : W2.cell? ⟨W1.heap.size, 2, none⟩ = some (.int .i64 x.b) := by rw [← HW2.out]; exact (Row.new W1 45 [.int .i64 x.op, .int .i64 x.a, .int .i64 x.b, .int .i64 x.c, .int .u64 x.imm]).cell rfl
  clear y0 y1 y2 y3 y4 q0 q1 q2 HW1 HW2
  by_cases h20 : x.op = 20
  · have ha := HT.out.1 h20
    rw [h20] at z0
    rw [ha] at z1
    clear HT h20 ha
    go_wp2_with fail
    refine (ce t).mono ?_
    rintro e w' ⟨rfl, hb'⟩
    have HB := hide (below_call B1.out (below_call B2.out hb'))
    clear hb' ce
    go_wp2_with fail
    go_ret2
    exact ⟨rfl, HB.out⟩
  · by_cases h21 : x.op = 21
    · have ha := HT.out.2.1 h21
      rw [h21] at z0
      rw [ha] at z2
      clear HT h20 h21 ha
      go_wp2_with fail
      refine (ce t).mono ?_
      rintro e w' ⟨rfl, hb'⟩
      have HB := hide (below_call B1.out (below_call B2.out hb'))
      clear hb' ce
      go_wp2_with fail
      go_ret2
      exact ⟨rfl, HB.out⟩
    · obtain rfl := HT.out.2.2 h20 h21
      have e20 : (x.op == 20) = false := by rw [beq_eq_false_iff_ne]; exact h20
      have e21 : (x.op == 21) = false := by rw [beq_eq_false_iff_ne]; exact h21
      clear HT h20 h21
      go_wp2_with fail
      refine (ce (-1)).mono ?_
      rintro e w' ⟨rfl, hb'⟩
      have HB := hide (below_call B1.out (below_call B2.out hb'))
      clear hb' ce
      go_wp2_with fail
      go_ret2
      exact ⟨rfl, HB.out⟩
end Go.Proofs.Ytjbgepjdohfhkaa
end
