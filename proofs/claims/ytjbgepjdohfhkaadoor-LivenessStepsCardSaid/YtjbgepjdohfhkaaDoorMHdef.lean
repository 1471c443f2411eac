import Derived.Test.YtjbgepjdohfhkaaDoorMBlists
import Derived.Test.YtjbgepjdohfhkaaDoorMLeaf
import Derived.Test.YtjbgepjdohfhkaaDoorMKit
import Derived.Deep.DeepCutAuto
import Derived.Outline
set_option linter.unusedVariables false
set_option linter.unusedSimpArgs false
section
/-
  The contracts of package effect (chapter 15) and of its reference, but In and Renamed: which slots an instruction reads, which it writes. Conditions: those of the types.
-/
namespace Go.Proofs.YtjbgepjdohfhkaaDoor
open Go.RowKit

theorem IntRel.lit1 {w wr w2 : World} (hb : Below w.heap.size w wr) (x : Int) (h2 : wr.alloc (.cells #[.int .i64 x] 3) = w2) : OutPost [x] w (.returned (.slice (some ⟨wr.heap.size, 0, none⟩) 1 1)) w2 := by
  subst h2
  refine ⟨_, _, rfl, ⟨by simp [cellsI], .inr ⟨wr.heap.size, 1, _, rfl, hb.size, heap_alloc_new wr _, Nat.le_refl _, by unfold maxLen; omega, by simp [cellsI], ?_⟩⟩, hb.alloc hb.size _⟩
  simp [cellsI]
theorem outpost_nil {w w2 : World} (hb : Below w.heap.size w w2) : OutPost [] w (.returned (.slice .none 0 0)) w2 := ⟨_, _, rfl, ⟨by simp [cellsI], .inl ⟨rfl, rfl⟩⟩, hb⟩
/-- What an operation is: it reads a slot, writes one, both, or none of it. -/
theorem op_cases (o : Int) : o = 15 ∨ o = 16 ∨ o = 17 ∨ (o ≠ 15 ∧ o ≠ 16 ∧ o ≠ 17) := by omega
theorem useB_no {o : Int} (h : o ≠ 15 ∧ o ≠ 16 ∧ o ≠ 17) : useB o = false := by simp [useB, h.1, h.2.2]
theorem defB_no {o : Int} (h : o ≠ 15 ∧ o ≠ 16 ∧ o ≠ 17) : defB o = false := by simp [defB, h.2.1, h.2.2]

theorem ereads_any (o : Int) (w : World) : Calls Tryd.prog 63 #[.int .i64 o] w fun e w' => e = .returned (.bool (useB o)) ∧ w' = w := by
  rcases op_cases o with rfl | rfl | rfl | h
  · go_enter Tryd.func63, Tryd.ntmps63
    go_wp2_with fail
    go_ret
    exact ⟨rfl, rfl⟩
  · go_enter Tryd.func63, Tryd.ntmps63
    go_wp2_with fail
    go_ret
    exact ⟨rfl, rfl⟩
  · go_enter Tryd.func63, Tryd.ntmps63
    go_wp2_with fail
    go_ret
    exact ⟨rfl, rfl⟩
  · have e1 : (o == 15) = false := by simpa using h.1
    have e2 : (o == 17) = false := by simpa using h.2.2
    have e3 := hide (useB_no h)
    clear h
    go_enter Tryd.func63, Tryd.ntmps63
    go_wp2_with fail
    go_ret
    exact ⟨ret_bool e3.out.symm, rfl⟩
theorem ewrites_any (o : Int) (w : World) : Calls Tryd.prog 61 #[.int .i64 o] w fun e w' => e = .returned (.bool (defB o)) ∧ w' = w := by
  rcases op_cases o with rfl | rfl | rfl | h
  · go_enter Tryd.func61, Tryd.ntmps61
    go_wp2_with fail
    go_ret
    exact ⟨rfl, rfl⟩
  · go_enter Tryd.func61, Tryd.ntmps61
    go_wp2_with fail
    go_ret
    exact ⟨rfl, rfl⟩
  · go_enter Tryd.func61, Tryd.ntmps61
    go_wp2_with fail
    go_ret
    exact ⟨rfl, rfl⟩
  · have e1 : (o == 16) = false := by simpa using h.2.1
    have e2 : (o == 17) = false := by simpa using h.2.2
    have e3 := hide (defB_no h)
    clear h
    go_enter Tryd.func61, Tryd.ntmps61
    go_wp2_with fail
    go_ret
    exact ⟨ret_bool e3.out.symm, rfl⟩

/-- The box of an instruction. -/
theorem ibox (w : World) (o a b c m : Int) : ∃ W, w.alloc (.cells #[.int .i64 o, .int .i64 a, .int .i64 b, .int .i64 c, .int .u64 m] 47) = W ∧ Row W w.heap.size 47 [.int .i64 o, .int .i64 a, .int .i64 b, .int .i64 c, .int .u64 m] ∧ Below w.heap.size w W := ⟨_, rfl, Row.new w _ _, below1 w _⟩

set_option maxHeartbeats 1000000 in
theorem euses_any (o a b c m : Int) (w : World) : Calls Tryd.prog 39 #[iv o a b c m] w (OutPost (usL o b) w) := by
  obtain ⟨W, hW, hR, hB⟩ := ibox w o a b c m
  have HW := hide hW
  have HB := hide hB
  have x0 := hR.cell (k := 0) rfl
  have x2 := hR.cell (k := 2) rfl
  have cr := ereads_any o W
  cases hu : useB o with
  | true =>
    rw [hu] at cr
    have e : usL o b = [b] := by unfold usL; rw [if_pos hu]
    rw [e]
    clear hW hR hB e hu
    go_enter Tryd.func39, Tryd.ntmps39
    go_upto_region 1 with (fail)
    rw [HW.out]
    go_wp2_with fail
    refine cr.mono ?_
    rintro e w' ⟨rfl, rfl⟩
    have FIN := hide (fun W2 h2 => IntRel.lit1 (w2 := W2) HB.out b h2)
    clear HW
    go_wp2_with fail
    go_ret
    exact FIN.out _ rfl
  | false =>
    rw [hu] at cr
    have e : usL o b = [] := by unfold usL; rw [hu]; rfl
    rw [e]
    clear hW hR hB e hu
    go_enter Tryd.func39, Tryd.ntmps39
    go_upto_region 1 with (fail)
    rw [HW.out]
    go_wp2_with fail
    refine cr.mono ?_
    rintro e w' ⟨rfl, rfl⟩
    clear HW
    go_wp2_with fail
    go_ret
    exact outpost_nil HB.out

/-- What Defines hands back. -/
def DefPost (o a : Int) (w : World) (e : Ending) (w' : World) : Prop := e = .returned (.tuple #[.int .i64 (dfI o a), .bool (defB o)]) ∧ Below w.heap.size w w'
theorem dfI_on {o a : Int} (h : defB o = true) : dfI o a = a := by unfold dfI; rw [if_pos h]
theorem dfI_off {o a : Int} (h : defB o = false) : dfI o a = 0 := by unfold dfI; rw [h]; rfl
set_option maxHeartbeats 1000000 in
theorem edefines_any (o a b c m : Int) (w : World) : Calls Tryd.prog 37 #[iv o a b c m] w (DefPost o a w) := by
  obtain ⟨W, hW, hR, hB⟩ := ibox w o a b c m
  have HW := hide hW
  have HB := hide hB
  have x0 := hR.cell (k := 0) rfl
  have x1 := hR.cell (k := 1) rfl
  have cr := ewrites_any o W
  unfold DefPost
  cases hu : defB o with
  | true =>
    rw [hu] at cr
    rw [dfI_on hu]
    clear hW hR hB hu
    go_enter Tryd.func37, Tryd.ntmps37
    go_upto_region 1 with (fail)
    rw [HW.out]
    go_wp2_with fail
    refine cr.mono ?_
    rintro e w' ⟨rfl, rfl⟩
    clear HW
    go_wp2_with fail
    go_ret2
    exact ⟨rfl, HB.out⟩
  | false =>
    rw [hu] at cr
    rw [dfI_off hu]
    clear hW hR hB hu
    go_enter Tryd.func37, Tryd.ntmps37
    go_upto_region 1 with (fail)
    rw [HW.out]
    go_wp2_with fail
    refine cr.mono ?_
    rintro e w' ⟨rfl, rfl⟩
    clear HW
    go_wp2_with fail
    go_ret2
    exact ⟨rfl, HB.out⟩
end Go.Proofs.YtjbgepjdohfhkaaDoor
end

section
/-
  The contract of sir.Terminator. No condition.
-/
namespace Go.Proofs.YtjbgepjdohfhkaaDoor
open Go.RowKit

theorem term_any (op : Int) (w : World) : Calls Tryd.prog 44 #[.int .i64 op] w fun e w' => e = .returned (.bool (termB op)) ∧ w = w' := by
  by_cases h1 : op = 20
  · subst h1
    go_enter Tryd.func44, Tryd.ntmps44
    go_wp2_with fail
    go_ret
    exact ⟨rfl, rfl⟩
  · by_cases h2 : op = 23
    · subst h2
      go_enter Tryd.func44, Tryd.ntmps44
      go_wp2_with fail
      go_ret
      exact ⟨rfl, rfl⟩
    · have b1 : (op == 20) = false := by simpa using h1
      have b2 : (op == 23) = false := by simpa using h2
      have e := hide (show termB op = (op == 24) by simp [termB, b1, b2])
      clear h1 h2
      go_enter Tryd.func44, Tryd.ntmps44
      go_wp2_with fail
      go_ret
      exact ⟨ret_bool e.out.symm, rfl⟩
end Go.Proofs.YtjbgepjdohfhkaaDoor
end

section
/-
  The contracts of flow.exists and flow.target. 'CdAt w A n l': at the slice A stand the n instructions l. Conditions: those of the types.
-/
namespace Go.Proofs.YtjbgepjdohfhkaaDoor
open Go.RowKit

/-- A function's code that can be read. -/
structure CdAt (w : World) (A : Option Addr) (n : Nat) (l : List Ins) : Prop where
  len : l.length = n
  few : n ≤ 1024
  see : Sees w w.heap.size A (icells l)
theorem CdAt.below {w w' : World} {A : Option Addr} {n : Nat} {l : List Ins} (h : CdAt w A n l) (hb : Below w.heap.size w w') : CdAt w' A n l := ⟨h.len, h.few, (h.see.below hb).more hb.size⟩
theorem exists_any (P : Int) (A1 : Option Addr) (n1 c1 : Nat) (A2 : Option Addr) (n2 c2 : Nat) (k : Int) (w : World) :
    Calls Tryd.prog 43 #[fv P A1 n1 c1 A2 n2 c2, .int .i64 k] w fun e w' => e = .returned (.bool (withB k n2)) ∧ Below w.heap.size w w' := by
  by_cases h : 0 ≤ k
  · go_enter Tryd.func43, Tryd.ntmps43
    go_wp2_with fail
    go_ret
    exact ⟨ret_bool (by simp [withB, h]), below1 _ _⟩
  · have hd : decide (0 ≤ k) = false := by simpa using h
    go_enter Tryd.func43, Tryd.ntmps43
    go_wp2_with fail
    go_ret
    exact ⟨ret_bool (by simp [withB, hd]), below1 _ _⟩
set_option maxHeartbeats 1000000 in
theorem target_any (P : Int) (A1 : Option Addr) (n1 c1 : Nat) (A2 : Option Addr) (n2 c2 : Nat) (l : List Ins) (k : Nat) (x : Ins) (w : World) (hC : Hid (CdAt w A2 n2 l)) (hx : Hid (l[k]? = some x)) :
    Calls Tryd.prog 45 #[fv P A1 n1 c1 A2 n2 c2, .int .i64 (k : Int)] w fun e w' => e = .returned (.tuple #[.int .i64 (tgtX x), .bool (withB (tgtX x) n2)]) ∧ Below w.heap.size w w' := by
  obtain ⟨hk, hxe⟩ := List.getElem?_eq_some_iff.1 hx.out
  have hkn : (k : Int) < (n2 : Int) := by have := hC.out.len; omega
  have hn2 := hC.out.few
  obtain ⟨b, off, rfl, hb, x0, x1, x2, x3, x4⟩ := ins_at hC.out.see hk
  rw [hxe] at x0 x1 x2 x3 x4
  obtain ⟨W1, hW1⟩ : ∃ W, w.alloc (.cells #[.int .i64 P, .slice A1 n1 c1, .slice (some ⟨b, off, none⟩) n2 c2] 27) = W := ⟨_, rfl⟩
  have R1 := hide (show Row W1 w.heap.size 27 [.int .i64 P, .slice A1 n1 c1, .slice (some ⟨b, off, none⟩) n2 c2] by rw [← hW1]; exact Row.new w _ _)
  have B1 := hide (show Below w.heap.size w W1 by rw [← hW1]; exact below1 w _)
  have HW1 := hide hW1
  have y0 := keep_cellB B1.out x0
  have y1 := keep_cellB B1.out x1
  have y2 := keep_cellB B1.out x2
  have y3 := keep_cellB B1.out x3
  have y4 := keep_cellB B1.out x4
  have q0 := R1.out.cell (k := 0) rfl
  have q1 := R1.out.cell (k := 1) rfl
  have q2 := R1.out.cell (k := 2) rfl
  obtain ⟨W2, hW2⟩ : ∃ W, W1.alloc (.cells #[.int .i64 x.op, .int .i64 x.a, .int .i64 x.b, .int .i64 x.c, .int .u64 x.imm] 47) = W := ⟨_, rfl⟩
  have HW2 := hide hW2
  have B2 := hide (show Below W1.heap.size W1 W2 by rw [← hW2]; exact below1 W1 _)
  have r0 := keep_cellB B2.out q0
  have r1 := keep_cellB B2.out q1
  have r2 := keep_cellB B2.out q2
  have ce := fun (z : Int) => exists_any P A1 n1 c1 (some ⟨b, off, none⟩) n2 c2 z W2
  obtain ⟨t, ht⟩ : ∃ t, tgtX x = t := ⟨_, rfl⟩
  rw [ht]
  have HT := hide (show (x.op = 20 → x.a = t) ∧ (x.op = 21 → x.b = t) ∧ (x.op ≠ 20 → x.op ≠ 21 → t = -1) by
    unfold tgtX at ht
    refine ⟨fun h => by rw [if_pos h] at ht; exact ht, fun h => by rw [if_neg (by omega), if_pos h] at ht; exact ht, fun h1 h2 => by rw [if_neg h1, if_neg h2] at ht; exact ht.symm⟩)
  clear hW1 hW2 x0 x1 x2 x3 x4 ht hk hxe hb
  go_enter Tryd.func45, Tryd.ntmps45
  go_upto_region 1 with (fail)
  rw [HW1.out]
  go_upto_region 3 with (fail)
  rw [HW2.out]
  have z0 : W2.cell? ⟨W1.heap.size, 0, none⟩ = some (.int .i64 x.op) := by rw [← HW2.out]; exact (Row.new W1 47 [.int .i64 x.op, .int .i64 x.a, .int .i64 x.b, .int .i64 x.c, .int .u64 x.imm]).cell rfl
  have z1 : W2.cell? ⟨W1.heap.size, 1, none⟩ = some (.int .i64 x.a) := by rw [← HW2.out]; exact (Row.new W1 47 [.int .i64 x.op, .int .i64 x.a, .int .i64 x.b, .int .i64 x.c, .int .u64 x.imm]).cell rfl
  have z2 : W2.cell? ⟨W1.heap.size, 2, none⟩ = some (.int .i64 x.b) := by rw [← HW2.out]; exact (Row.new W1 47 [.int .i64 x.op, .int .i64 x.a, .int .i64 x.b, .int .i64 x.c, .int .u64 x.imm]).cell rfl
  clear y0 y1 y2 y3 y4 q0 q1 q2 HW1 HW2
  by_cases h20 : x.op = 20
  · have ha := HT.out.1 h20
    rw [h20] at z0
    rw [ha] at z1
    clear HT h20 ha
    go_wp2_with fail
    refine (ce t).mono ?_
    rintro e w' ⟨rfl, hb'⟩
    have HB := hide (below_call B1.out (below_call B2.out hb'))
    clear hb' ce
    go_wp2_with fail
    go_ret2
    exact ⟨rfl, HB.out⟩
  · by_cases h21 : x.op = 21
    · have ha := HT.out.2.1 h21
      rw [h21] at z0
      rw [ha] at z2
      clear HT h20 h21 ha
      go_wp2_with fail
      refine (ce t).mono ?_
      rintro e w' ⟨rfl, hb'⟩
      have HB := hide (below_call B1.out (below_call B2.out hb'))
      clear hb' ce
      go_wp2_with fail
      go_ret2
      exact ⟨rfl, HB.out⟩
    · obtain rfl := HT.out.2.2 h20 h21
      have e20 : (x.op == 20) = false := by rw [beq_eq_false_iff_ne]; exact h20
      have e21 : (x.op == 21) = false := by rw [beq_eq_false_iff_ne]; exact h21
      clear HT h20 h21
      go_wp2_with fail
      refine (ce (-1)).mono ?_
      rintro e w' ⟨rfl, hb'⟩
      have HB := hide (below_call B1.out (below_call B2.out hb'))
      clear hb' ce
      go_wp2_with fail
      go_ret2
      exact ⟨rfl, HB.out⟩
end Go.Proofs.YtjbgepjdohfhkaaDoor
end
