import Derived.Test.YtidlnecgfgnllaaDoorMBwmi
import Derived.Test.YtidlnecgfgnllaaDoorMFsrt
import Derived.Deep.DeepCutAuto
set_option linter.unusedVariables false
set_option linter.unusedSimpArgs false
section
/-
  The contract of flow.Next: what may follow an instruction of a right function, a row of the call's own. Conditions: those of the types. Printed by program (gennx.py).
-/
namespace Go.Proofs.YtidlnecgfgnllaaDoor
open Go.RowKit

theorem IntRel.swapped {w wr w2 : World} {g c : Nat} {x y : Int} (h : IntRel w [x, y] (.slice (some ⟨g, 0, none⟩) 2 c) wr) (ho : w2.ownsRow w.heap.size 3 1 (.slice (some ⟨g, 0, none⟩) 2 c) 2 [.int .i64 y, .int .i64 x]) (hg : wr.grownBy w2 (some g)) : IntRel w [y, x] (.slice (some ⟨g, 0, none⟩) 2 c) w2 :=
  ⟨ho, h.2.grown hg h.2.size fun k hk => by injection hk with hk; have := (h.1.lt g rfl).1; omega⟩
theorem IntRel.fewer {w wr w2 : World} {g c : Nat} {x y z : Int} (h : IntRel w [x, y] (.slice (some ⟨g, 0, none⟩) 2 c) wr) (ho : w2.ownsRow w.heap.size 3 1 (.slice (some ⟨g, 0, none⟩) 1 c) 1 [.int .i64 z]) (hg : wr.grownBy w2 (some g)) : IntRel w [z] (.slice (some ⟨g, 0, none⟩) 1 c) w2 :=
  ⟨ho, h.2.grown hg h.2.size fun k hk => by injection hk with hk; have := (h.1.lt g rfl).1; omega⟩
section
variable {P : Int} {A1 : Option Addr} {n1 c1 : Nat} {A2 : Option Addr} {n2 c2 : Nat} {l : List Ins} {k : Nat} {x : Ins} {w : World}
/-- Beyond the code. -/
theorem fnext_out (k : Int) (h : withB k n2 = false) : Calls Tryd.prog 51 #[fv P A1 n1 c1 A2 n2 c2, .int .i64 k] w (OutPost [] w) := by
  obtain ⟨W1, hW1⟩ : ∃ W, w.alloc (.cells #[.int .i64 P, .slice A1 n1 c1, .slice A2 n2 c2] 30) = W := ⟨_, rfl⟩
  have R1 := hide (show Row W1 w.heap.size 30 [.int .i64 P, .slice A1 n1 c1, .slice A2 n2 c2] by rw [← hW1]; exact Row.new w _ _)
  have B1 := hide (show Below w.heap.size w W1 by rw [← hW1]; exact below1 w _)
  have HW1 := hide hW1
  clear hW1
  have ce := exists_any P A1 n1 c1 A2 n2 c2 k W1
  rw [h] at ce
  go_enter Tryd.func51, Tryd.ntmps51
  go_upto_region 1 with (fail)
  rw [HW1.out]
  have q0 := R1.out.cell (k := 0) rfl
  have q1 := R1.out.cell (k := 1) rfl
  have q2 := R1.out.cell (k := 2) rfl
  go_wp2_with fail
  refine ce.mono ?_
  rintro e w2 ⟨rfl, hb2⟩
  have B2 := hide (below_call B1.out hb2)
  clear hb2 ce q0 q1 q2
  go_wp2_with fail
  go_ret
  exact (IntRel.start w w2 B2.out).done
set_option maxRecDepth 100000 in
set_option maxHeartbeats 2000000 in
/-- A Jump. -/
theorem fnext_jump (hC : Hid (CdAt w A2 n2 l)) (hok : FlowOk l) (hx : Hid (l[k]? = some x)) (h20 : x.op = 20) : Calls Tryd.prog 51 #[fv P A1 n1 c1 A2 n2 c2, .int .i64 (k : Int)] w (OutPost [x.a] w) := by
  obtain ⟨i0, hi, hz0, hz1, hz2⟩ := info_parts infoI
  obtain ⟨hk, hxe⟩ := List.getElem?_eq_some_iff.1 hx.out
  have hlen := hC.out.len
  have hn2 := hC.out.few
  obtain ⟨b, off, rfl, hb, x0, -, -, -, -⟩ := ins_at hC.out.see hk
  rw [hxe] at x0
  obtain ⟨W1, hW1⟩ : ∃ W, w.alloc (.cells #[.int .i64 P, .slice A1 n1 c1, .slice (some ⟨b, off, none⟩) n2 c2] 30) = W := ⟨_, rfl⟩
  have R1 := hide (show Row W1 w.heap.size 30 [.int .i64 P, .slice A1 n1 c1, .slice (some ⟨b, off, none⟩) n2 c2] by rw [← hW1]; exact Row.new w _ _)
  have B1 := hide (show Below w.heap.size w W1 by rw [← hW1]; exact below1 w _)
  have HW1 := hide hW1
  clear hW1
  have y0 := keep_cellB B1.out x0
  have ce1 := exists_any P A1 n1 c1 (some ⟨b, off, none⟩) n2 c2 (k : Int) W1
  rw [withB_true.2 ⟨by omega, by omega⟩] at ce1
  have ct := fun W => term_any x.op W
  rw [show termB x.op = true by rw [h20]; rfl] at ct
  have cg := fun W hW => target_any P A1 n1 c1 (some ⟨b, off, none⟩) n2 c2 l k x W hW hx
  have htg : tgtX x = x.a := by unfold tgtX; rw [if_pos h20]
  have hj := hok.jmp k x hx.out h20
  obtain ⟨z, hz⟩ : ∃ z, x.a = z := ⟨_, rfl⟩
  rw [htg, hz, withB_true.2 ⟨by omega, by omega⟩] at cg
  rw [hz]
  clear htg hj hz h20
  have hk0 : (0 : Int) ≤ (k : Int) := by omega
  have hkn : (k : Int) < (n2 : Int) := by omega
  clear x0 hxe hk hlen
  go_enter Tryd.func51, Tryd.ntmps51
  go_upto_region 1 with (fail)
  rw [HW1.out]
  have q0 := R1.out.cell (k := 0) rfl
  have q1 := R1.out.cell (k := 1) rfl
  have q2 := R1.out.cell (k := 2) rfl
  go_wp2_with fail
  refine ce1.mono ?_
  rintro e w2 ⟨rfl, hb2⟩
  have B2 := hide (below_call B1.out hb2)
  have R2 := hide (R1.out.call hb2)
  have y0 := keep_cellB hb2 y0
  clear hb2 ce1 q0 q1 q2 HW1 B1 R1
  have q0 := R2.out.cell (k := 0) rfl
  have q1 := R2.out.cell (k := 1) rfl
  have q2 := R2.out.cell (k := 2) rfl
  go_wp2_with fail
  refine (ct _).mono ?_
  rintro e w' ⟨rfl, rfl⟩
  clear ct
  have I4 := hide (IntRel.start w _ B2.out)
  have R4 := R2
  clear q0 q1 q2 y0 B2 R2
  have cg := cg w2 (hide (hC.out.below I4.out.2))
  have q0 := R4.out.cell (k := 0) rfl
  have q1 := R4.out.cell (k := 1) rfl
  have q2 := R4.out.cell (k := 2) rfl
  go_upto_region 6 with (fail)
  go_wp2_with fail
  refine cg.mono ?_
  rintro e w5 ⟨rfl, hb5⟩
  have I5 := hide (I4.out.call hb5)
  have HS5 := hide I5.out.2.size
  clear hb5 cg q0 q1 q2 R4 I4
  go_upto_region 9 with (at_builtin; refine wpList_append_own _ rfl (.tmp 38) (.tmp 40) 42 rfl w.heap.size 3 i0 (.int .i64 0) 1 8 Tryd.underlying42 hi hz0 hz1 hz2 rfl (by decide) (.slice none 0 0) 0 (cellsI []) rfl (I5.out.1.alloc _) ⟨w5.heap.size, 0, none⟩ 1 1 [.int .i64 z] rfl rfl (one_new _ _ _) (one_cell _) (by unfold maxLen; omega) (by omega) (Nat.le_trans HS5.out (by simp)) ?_)
  intro v6 w6 ho6 hg6 _
  have I6 := hide (IntRel.step I5 ho6 hg6)
  clear ho6 hg6
  clear I5 HS5
  obtain ⟨A6, c6, rfl, -, -⟩ := own_form I6.out.1
  go_wp2_with fail
  refine (sort_one w6).mono ?_
  rintro e w' ⟨rfl, rfl⟩
  go_wp2_with fail
  refine (compact_few w6 (by decide)).mono ?_
  rintro e w' ⟨rfl, rfl⟩
  go_wp2_with fail
  go_ret
  exact I6.out.done
set_option maxRecDepth 100000 in
set_option maxHeartbeats 2000000 in
/-- A Return or Trap. -/
theorem fnext_end (hC : Hid (CdAt w A2 n2 l)) (hok : FlowOk l) (hx : Hid (l[k]? = some x)) (hterm : termB x.op = true) (h20 : x.op ≠ 20) (h21 : x.op ≠ 21) : Calls Tryd.prog 51 #[fv P A1 n1 c1 A2 n2 c2, .int .i64 (k : Int)] w (OutPost [] w) := by
  obtain ⟨i0, hi, hz0, hz1, hz2⟩ := info_parts infoI
  obtain ⟨hk, hxe⟩ := List.getElem?_eq_some_iff.1 hx.out
  have hlen := hC.out.len
  have hn2 := hC.out.few
  obtain ⟨b, off, rfl, hb, x0, -, -, -, -⟩ := ins_at hC.out.see hk
  rw [hxe] at x0
  obtain ⟨W1, hW1⟩ : ∃ W, w.alloc (.cells #[.int .i64 P, .slice A1 n1 c1, .slice (some ⟨b, off, none⟩) n2 c2] 30) = W := ⟨_, rfl⟩
  have R1 := hide (show Row W1 w.heap.size 30 [.int .i64 P, .slice A1 n1 c1, .slice (some ⟨b, off, none⟩) n2 c2] by rw [← hW1]; exact Row.new w _ _)
  have B1 := hide (show Below w.heap.size w W1 by rw [← hW1]; exact below1 w _)
  have HW1 := hide hW1
  clear hW1
  have y0 := keep_cellB B1.out x0
  have ce1 := exists_any P A1 n1 c1 (some ⟨b, off, none⟩) n2 c2 (k : Int) W1
  rw [withB_true.2 ⟨by omega, by omega⟩] at ce1
  have ct := fun W => term_any x.op W
  rw [hterm] at ct
  have cg := fun W hW => target_any P A1 n1 c1 (some ⟨b, off, none⟩) n2 c2 l k x W hW hx
  have htg : tgtX x = -1 := by unfold tgtX; rw [if_neg h20, if_neg h21]
  rw [htg, show withB (-1) (n2 : Int) = false from withB_false.2 (by omega)] at cg
  clear htg
  have hk0 : (0 : Int) ≤ (k : Int) := by omega
  have hkn : (k : Int) < (n2 : Int) := by omega
  clear x0 hxe hk hlen
  go_enter Tryd.func51, Tryd.ntmps51
  go_upto_region 1 with (fail)
  rw [HW1.out]
  have q0 := R1.out.cell (k := 0) rfl
  have q1 := R1.out.cell (k := 1) rfl
  have q2 := R1.out.cell (k := 2) rfl
  go_wp2_with fail
  refine ce1.mono ?_
  rintro e w2 ⟨rfl, hb2⟩
  have B2 := hide (below_call B1.out hb2)
  have R2 := hide (R1.out.call hb2)
  have y0 := keep_cellB hb2 y0
  clear hb2 ce1 q0 q1 q2 HW1 B1 R1
  have q0 := R2.out.cell (k := 0) rfl
  have q1 := R2.out.cell (k := 1) rfl
  have q2 := R2.out.cell (k := 2) rfl
  go_wp2_with fail
  refine (ct _).mono ?_
  rintro e w' ⟨rfl, rfl⟩
  clear ct
  have I4 := hide (IntRel.start w _ B2.out)
  have R4 := R2
  clear q0 q1 q2 y0 B2 R2
  have cg := cg w2 (hide (hC.out.below I4.out.2))
  have q0 := R4.out.cell (k := 0) rfl
  have q1 := R4.out.cell (k := 1) rfl
  have q2 := R4.out.cell (k := 2) rfl
  go_upto_region 6 with (fail)
  go_wp2_with fail
  refine cg.mono ?_
  rintro e w5 ⟨rfl, hb5⟩
  have I5 := hide (I4.out.call hb5)
  have HS5 := hide I5.out.2.size
  clear hb5 cg q0 q1 q2 R4 I4
  go_wp2_with fail
  refine (sort_none w5).mono ?_
  rintro e w' ⟨rfl, rfl⟩
  go_wp2_with fail
  refine (compact_few w5 (by decide)).mono ?_
  rintro e w' ⟨rfl, rfl⟩
  go_wp2_with fail
  go_ret
  exact I5.out.done
set_option maxRecDepth 100000 in
set_option maxHeartbeats 2000000 in
/-- No jump. -/
theorem fnext_plain (hC : Hid (CdAt w A2 n2 l)) (hok : FlowOk l) (hx : Hid (l[k]? = some x)) (hterm : termB x.op = false) (h20 : x.op ≠ 20) (h21 : x.op ≠ 21) : Calls Tryd.prog 51 #[fv P A1 n1 c1 A2 n2 c2, .int .i64 (k : Int)] w (OutPost [(k : Int) + 1] w) := by
  obtain ⟨i0, hi, hz0, hz1, hz2⟩ := info_parts infoI
  obtain ⟨hk, hxe⟩ := List.getElem?_eq_some_iff.1 hx.out
  have hlen := hC.out.len
  have hn2 := hC.out.few
  obtain ⟨b, off, rfl, hb, x0, -, -, -, -⟩ := ins_at hC.out.see hk
  rw [hxe] at x0
  obtain ⟨W1, hW1⟩ : ∃ W, w.alloc (.cells #[.int .i64 P, .slice A1 n1 c1, .slice (some ⟨b, off, none⟩) n2 c2] 30) = W := ⟨_, rfl⟩
  have R1 := hide (show Row W1 w.heap.size 30 [.int .i64 P, .slice A1 n1 c1, .slice (some ⟨b, off, none⟩) n2 c2] by rw [← hW1]; exact Row.new w _ _)
  have B1 := hide (show Below w.heap.size w W1 by rw [← hW1]; exact below1 w _)
  have HW1 := hide hW1
  clear hW1
  have y0 := keep_cellB B1.out x0
  have ce1 := exists_any P A1 n1 c1 (some ⟨b, off, none⟩) n2 c2 (k : Int) W1
  rw [withB_true.2 ⟨by omega, by omega⟩] at ce1
  have ct := fun W => term_any x.op W
  rw [hterm] at ct
  have hnx := hok.nxt k x hx.out hterm
  have ce2 := fun W => exists_any P A1 n1 c1 (some ⟨b, off, none⟩) n2 c2 ((k : Int) + 1) W
  rw [withB_true.2 ⟨by omega, by omega⟩] at ce2
  have hwk : IntKind.i64.wrap ((k : Int) + 1) = (k : Int) + 1 := by rw [IntKind.wrap_i64]; omega
  have cg := fun W hW => target_any P A1 n1 c1 (some ⟨b, off, none⟩) n2 c2 l k x W hW hx
  have htg : tgtX x = -1 := by unfold tgtX; rw [if_neg h20, if_neg h21]
  rw [htg, show withB (-1) (n2 : Int) = false from withB_false.2 (by omega)] at cg
  clear htg
  have hk0 : (0 : Int) ≤ (k : Int) := by omega
  have hkn : (k : Int) < (n2 : Int) := by omega
  clear x0 hxe hk hlen
  go_enter Tryd.func51, Tryd.ntmps51
  go_upto_region 1 with (fail)
  rw [HW1.out]
  have q0 := R1.out.cell (k := 0) rfl
  have q1 := R1.out.cell (k := 1) rfl
  have q2 := R1.out.cell (k := 2) rfl
  go_wp2_with fail
  refine ce1.mono ?_
  rintro e w2 ⟨rfl, hb2⟩
  have B2 := hide (below_call B1.out hb2)
  have R2 := hide (R1.out.call hb2)
  have y0 := keep_cellB hb2 y0
  clear hb2 ce1 q0 q1 q2 HW1 B1 R1
  have q0 := R2.out.cell (k := 0) rfl
  have q1 := R2.out.cell (k := 1) rfl
  have q2 := R2.out.cell (k := 2) rfl
  go_wp2_with fail
  refine (ct _).mono ?_
  rintro e w' ⟨rfl, rfl⟩
  clear ct
  go_wp2_with fail
  refine (ce2 _).mono ?_
  rintro e w3 ⟨rfl, hb3⟩
  have R3 := hide (R2.out.call hb3)
  have I3 := hide (IntRel.start w w3 (below_call B2.out hb3))
  have HS3 := hide I3.out.2.size
  clear hb3 ce2 q0 q1 q2 y0 B2 R2
  go_upto_region 6 with (at_builtin; refine wpList_append_own _ rfl (.tmp 26) (.tmp 29) 42 rfl w.heap.size 3 i0 (.int .i64 0) 1 8 Tryd.underlying42 hi hz0 hz1 hz2 rfl (by decide) (.slice none 0 0) 0 [] rfl (I3.out.1.alloc _) ⟨w3.heap.size, 0, none⟩ 1 1 [.int .i64 ((k : Int) + 1)] rfl rfl (one_new _ _ _) (one_cell _) (by unfold maxLen; omega) (by omega) (Nat.le_trans HS3.out (by simp)) ?_)
  intro v4 w4 ho4 hg4 _
  have I4 := hide (IntRel.step I3 ho4 hg4)
  have R4 := hide ((R3.out.alloc (.cells #[.int .i64 ((k : Int) + 1)] 3)).grown hg4 (by simp [Value.ownBlock]))
  clear ho4 hg4
  clear I3 R3 HS3 hwk
  have cg := cg w4 (hide (hC.out.below I4.out.2))
  have q0 := R4.out.cell (k := 0) rfl
  have q1 := R4.out.cell (k := 1) rfl
  have q2 := R4.out.cell (k := 2) rfl
  go_upto_region 6 with (fail)
  go_wp2_with fail
  refine cg.mono ?_
  rintro e w5 ⟨rfl, hb5⟩
  have I5 := hide (I4.out.call hb5)
  have HS5 := hide I5.out.2.size
  clear hb5 cg q0 q1 q2 R4 I4
  obtain ⟨A5, c5, rfl, -, -⟩ := own_form I5.out.1
  go_wp2_with fail
  refine (sort_one w5).mono ?_
  rintro e w' ⟨rfl, rfl⟩
  go_wp2_with fail
  refine (compact_few w5 (by decide)).mono ?_
  rintro e w' ⟨rfl, rfl⟩
  go_wp2_with fail
  go_ret
  exact I5.out.done
set_option maxRecDepth 100000 in
set_option maxHeartbeats 2000000 in
/-- A Branch back. -/
theorem fnext_back (hC : Hid (CdAt w A2 n2 l)) (hok : FlowOk l) (hx : Hid (l[k]? = some x)) (hterm : termB x.op = false) (h21 : x.op = 21) (hcmp : x.b < (k : Int) + 1) : Calls Tryd.prog 51 #[fv P A1 n1 c1 A2 n2 c2, .int .i64 (k : Int)] w (OutPost [x.b, (k : Int) + 1] w) := by
  obtain ⟨i0, hi, hz0, hz1, hz2⟩ := info_parts infoI
  obtain ⟨hk, hxe⟩ := List.getElem?_eq_some_iff.1 hx.out
  have hlen := hC.out.len
  have hn2 := hC.out.few
  obtain ⟨b, off, rfl, hb, x0, -, -, -, -⟩ := ins_at hC.out.see hk
  rw [hxe] at x0
  obtain ⟨W1, hW1⟩ : ∃ W, w.alloc (.cells #[.int .i64 P, .slice A1 n1 c1, .slice (some ⟨b, off, none⟩) n2 c2] 30) = W := ⟨_, rfl⟩
  have R1 := hide (show Row W1 w.heap.size 30 [.int .i64 P, .slice A1 n1 c1, .slice (some ⟨b, off, none⟩) n2 c2] by rw [← hW1]; exact Row.new w _ _)
  have B1 := hide (show Below w.heap.size w W1 by rw [← hW1]; exact below1 w _)
  have HW1 := hide hW1
  clear hW1
  have y0 := keep_cellB B1.out x0
  have ce1 := exists_any P A1 n1 c1 (some ⟨b, off, none⟩) n2 c2 (k : Int) W1
  rw [withB_true.2 ⟨by omega, by omega⟩] at ce1
  have ct := fun W => term_any x.op W
  rw [hterm] at ct
  have hnx := hok.nxt k x hx.out hterm
  have ce2 := fun W => exists_any P A1 n1 c1 (some ⟨b, off, none⟩) n2 c2 ((k : Int) + 1) W
  rw [withB_true.2 ⟨by omega, by omega⟩] at ce2
  have hwk : IntKind.i64.wrap ((k : Int) + 1) = (k : Int) + 1 := by rw [IntKind.wrap_i64]; omega
  have cg := fun W hW => target_any P A1 n1 c1 (some ⟨b, off, none⟩) n2 c2 l k x W hW hx
  have htg : tgtX x = x.b := by unfold tgtX; rw [if_neg (by omega), if_pos h21]
  have hj := hok.brn k x hx.out h21
  obtain ⟨z, hz⟩ : ∃ z, x.b = z := ⟨_, rfl⟩
  rw [htg, hz, withB_true.2 ⟨by omega, by omega⟩] at cg
  rw [hz] at hcmp
  try rw [hz]
  clear htg hj hz h21
  have hk0 : (0 : Int) ≤ (k : Int) := by omega
  have hkn : (k : Int) < (n2 : Int) := by omega
  clear x0 hxe hk hlen
  go_enter Tryd.func51, Tryd.ntmps51
  go_upto_region 1 with (fail)
  rw [HW1.out]
  have q0 := R1.out.cell (k := 0) rfl
  have q1 := R1.out.cell (k := 1) rfl
  have q2 := R1.out.cell (k := 2) rfl
  go_wp2_with fail
  refine ce1.mono ?_
  rintro e w2 ⟨rfl, hb2⟩
  have B2 := hide (below_call B1.out hb2)
  have R2 := hide (R1.out.call hb2)
  have y0 := keep_cellB hb2 y0
  clear hb2 ce1 q0 q1 q2 HW1 B1 R1
  have q0 := R2.out.cell (k := 0) rfl
  have q1 := R2.out.cell (k := 1) rfl
  have q2 := R2.out.cell (k := 2) rfl
  go_wp2_with fail
  refine (ct _).mono ?_
  rintro e w' ⟨rfl, rfl⟩
  clear ct
  go_wp2_with fail
  refine (ce2 _).mono ?_
  rintro e w3 ⟨rfl, hb3⟩
  have R3 := hide (R2.out.call hb3)
  have I3 := hide (IntRel.start w w3 (below_call B2.out hb3))
  have HS3 := hide I3.out.2.size
  clear hb3 ce2 q0 q1 q2 y0 B2 R2
  go_upto_region 6 with (at_builtin; refine wpList_append_own _ rfl (.tmp 26) (.tmp 29) 42 rfl w.heap.size 3 i0 (.int .i64 0) 1 8 Tryd.underlying42 hi hz0 hz1 hz2 rfl (by decide) (.slice none 0 0) 0 [] rfl (I3.out.1.alloc _) ⟨w3.heap.size, 0, none⟩ 1 1 [.int .i64 ((k : Int) + 1)] rfl rfl (one_new _ _ _) (one_cell _) (by unfold maxLen; omega) (by omega) (Nat.le_trans HS3.out (by simp)) ?_)
  intro v4 w4 ho4 hg4 _
  have I4 := hide (IntRel.step I3 ho4 hg4)
  have R4 := hide ((R3.out.alloc (.cells #[.int .i64 ((k : Int) + 1)] 3)).grown hg4 (by simp [Value.ownBlock]))
  clear ho4 hg4
  clear I3 R3 HS3 hwk
  have cg := cg w4 (hide (hC.out.below I4.out.2))
  have q0 := R4.out.cell (k := 0) rfl
  have q1 := R4.out.cell (k := 1) rfl
  have q2 := R4.out.cell (k := 2) rfl
  go_upto_region 6 with (fail)
  go_wp2_with fail
  refine cg.mono ?_
  rintro e w5 ⟨rfl, hb5⟩
  have I5 := hide (I4.out.call hb5)
  have HS5 := hide I5.out.2.size
  clear hb5 cg q0 q1 q2 R4 I4
  go_upto_region 9 with (at_builtin; refine wpList_append_own _ rfl (.tmp 38) (.tmp 40) 42 rfl w.heap.size 3 i0 (.int .i64 0) 1 8 Tryd.underlying42 hi hz0 hz1 hz2 rfl (by decide) v4 1 (cellsI [(k : Int) + 1]) rfl (I5.out.1.alloc _) ⟨w5.heap.size, 0, none⟩ 1 1 [.int .i64 z] rfl rfl (one_new _ _ _) (one_cell _) (by unfold maxLen; omega) (by omega) (Nat.le_trans HS5.out (by simp)) ?_)
  intro v6 w6 ho6 hg6 _
  have I6 := hide (IntRel.step I5 ho6 hg6)
  clear ho6 hg6
  clear I5 HS5
  obtain ⟨g6, c6, rfl, hbg, -, hcap, -⟩ := own_block I6.out.1 (by simp)
  have hcap2 : 2 ≤ c6 := hcap
  go_wp2_with fail
  refine (sort_swap w.heap.size g6 c6 ((k : Int) + 1) z w6 (by omega) hbg (hide I6.out.1)).mono ?_
  rintro e w7 ⟨rfl, ho7, hg7⟩
  have I7 := hide (I6.out.swapped ho7 hg7)
  clear ho7 hg7
  clear I6
  go_wp2_with fail
  refine (compact_two w.heap.size g6 c6 z ((k : Int) + 1) w7 (by omega) (hide I7.out.1)).mono ?_
  rintro e w8 ⟨rfl, hb8⟩
  have I8 := hide (I7.out.call hb8)
  clear hb8
  clear I7
  go_wp2_with fail
  go_ret
  exact I8.out.done
set_option maxRecDepth 100000 in
set_option maxHeartbeats 2000000 in
/-- A Branch ahead. -/
theorem fnext_fore (hC : Hid (CdAt w A2 n2 l)) (hok : FlowOk l) (hx : Hid (l[k]? = some x)) (hterm : termB x.op = false) (h21 : x.op = 21) (hcmp : (k : Int) + 1 < x.b) : Calls Tryd.prog 51 #[fv P A1 n1 c1 A2 n2 c2, .int .i64 (k : Int)] w (OutPost [(k : Int) + 1, x.b] w) := by
  obtain ⟨i0, hi, hz0, hz1, hz2⟩ := info_parts infoI
  obtain ⟨hk, hxe⟩ := List.getElem?_eq_some_iff.1 hx.out
  have hlen := hC.out.len
  have hn2 := hC.out.few
  obtain ⟨b, off, rfl, hb, x0, -, -, -, -⟩ := ins_at hC.out.see hk
  rw [hxe] at x0
  obtain ⟨W1, hW1⟩ : ∃ W, w.alloc (.cells #[.int .i64 P, .slice A1 n1 c1, .slice (some ⟨b, off, none⟩) n2 c2] 30) = W := ⟨_, rfl⟩
  have R1 := hide (show Row W1 w.heap.size 30 [.int .i64 P, .slice A1 n1 c1, .slice (some ⟨b, off, none⟩) n2 c2] by rw [← hW1]; exact Row.new w _ _)
  have B1 := hide (show Below w.heap.size w W1 by rw [← hW1]; exact below1 w _)
  have HW1 := hide hW1
  clear hW1
  have y0 := keep_cellB B1.out x0
  have ce1 := exists_any P A1 n1 c1 (some ⟨b, off, none⟩) n2 c2 (k : Int) W1
  rw [withB_true.2 ⟨by omega, by omega⟩] at ce1
  have ct := fun W => term_any x.op W
  rw [hterm] at ct
  have hnx := hok.nxt k x hx.out hterm
  have ce2 := fun W => exists_any P A1 n1 c1 (some ⟨b, off, none⟩) n2 c2 ((k : Int) + 1) W
  rw [withB_true.2 ⟨by omega, by omega⟩] at ce2
  have hwk : IntKind.i64.wrap ((k : Int) + 1) = (k : Int) + 1 := by rw [IntKind.wrap_i64]; omega
  have cg := fun W hW => target_any P A1 n1 c1 (some ⟨b, off, none⟩) n2 c2 l k x W hW hx
  have htg : tgtX x = x.b := by unfold tgtX; rw [if_neg (by omega), if_pos h21]
  have hj := hok.brn k x hx.out h21
  obtain ⟨z, hz⟩ : ∃ z, x.b = z := ⟨_, rfl⟩
  rw [htg, hz, withB_true.2 ⟨by omega, by omega⟩] at cg
  rw [hz] at hcmp
  try rw [hz]
  clear htg hj hz h21
  have hk0 : (0 : Int) ≤ (k : Int) := by omega
  have hkn : (k : Int) < (n2 : Int) := by omega
  clear x0 hxe hk hlen
  go_enter Tryd.func51, Tryd.ntmps51
  go_upto_region 1 with (fail)
  rw [HW1.out]
  have q0 := R1.out.cell (k := 0) rfl
  have q1 := R1.out.cell (k := 1) rfl
  have q2 := R1.out.cell (k := 2) rfl
  go_wp2_with fail
  refine ce1.mono ?_
  rintro e w2 ⟨rfl, hb2⟩
  have B2 := hide (below_call B1.out hb2)
  have R2 := hide (R1.out.call hb2)
  have y0 := keep_cellB hb2 y0
  clear hb2 ce1 q0 q1 q2 HW1 B1 R1
  have q0 := R2.out.cell (k := 0) rfl
  have q1 := R2.out.cell (k := 1) rfl
  have q2 := R2.out.cell (k := 2) rfl
  go_wp2_with fail
  refine (ct _).mono ?_
  rintro e w' ⟨rfl, rfl⟩
  clear ct
  go_wp2_with fail
  refine (ce2 _).mono ?_
  rintro e w3 ⟨rfl, hb3⟩
  have R3 := hide (R2.out.call hb3)
  have I3 := hide (IntRel.start w w3 (below_call B2.out hb3))
  have HS3 := hide I3.out.2.size
  clear hb3 ce2 q0 q1 q2 y0 B2 R2
  go_upto_region 6 with (at_builtin; refine wpList_append_own _ rfl (.tmp 26) (.tmp 29) 42 rfl w.heap.size 3 i0 (.int .i64 0) 1 8 Tryd.underlying42 hi hz0 hz1 hz2 rfl (by decide) (.slice none 0 0) 0 [] rfl (I3.out.1.alloc _) ⟨w3.heap.size, 0, none⟩ 1 1 [.int .i64 ((k : Int) + 1)] rfl rfl (one_new _ _ _) (one_cell _) (by unfold maxLen; omega) (by omega) (Nat.le_trans HS3.out (by simp)) ?_)
  intro v4 w4 ho4 hg4 _
  have I4 := hide (IntRel.step I3 ho4 hg4)
  have R4 := hide ((R3.out.alloc (.cells #[.int .i64 ((k : Int) + 1)] 3)).grown hg4 (by simp [Value.ownBlock]))
  clear ho4 hg4
  clear I3 R3 HS3 hwk
  have cg := cg w4 (hide (hC.out.below I4.out.2))
  have q0 := R4.out.cell (k := 0) rfl
  have q1 := R4.out.cell (k := 1) rfl
  have q2 := R4.out.cell (k := 2) rfl
  go_upto_region 6 with (fail)
  go_wp2_with fail
  refine cg.mono ?_
  rintro e w5 ⟨rfl, hb5⟩
  have I5 := hide (I4.out.call hb5)
  have HS5 := hide I5.out.2.size
  clear hb5 cg q0 q1 q2 R4 I4
  go_upto_region 9 with (at_builtin; refine wpList_append_own _ rfl (.tmp 38) (.tmp 40) 42 rfl w.heap.size 3 i0 (.int .i64 0) 1 8 Tryd.underlying42 hi hz0 hz1 hz2 rfl (by decide) v4 1 (cellsI [(k : Int) + 1]) rfl (I5.out.1.alloc _) ⟨w5.heap.size, 0, none⟩ 1 1 [.int .i64 z] rfl rfl (one_new _ _ _) (one_cell _) (by unfold maxLen; omega) (by omega) (Nat.le_trans HS5.out (by simp)) ?_)
  intro v6 w6 ho6 hg6 _
  have I6 := hide (IntRel.step I5 ho6 hg6)
  clear ho6 hg6
  clear I5 HS5
  obtain ⟨g6, c6, rfl, hbg, -, hcap, -⟩ := own_block I6.out.1 (by simp)
  have hcap2 : 2 ≤ c6 := hcap
  go_wp2_with fail
  refine (sort_keep w.heap.size g6 c6 ((k : Int) + 1) z w6 (by omega) (hide I6.out.1)).mono ?_
  rintro e w7 ⟨rfl, hb7⟩
  have I7 := hide (I6.out.call hb7)
  clear hb7
  clear I6
  go_wp2_with fail
  refine (compact_two w.heap.size g6 c6 ((k : Int) + 1) z w7 (by omega) (hide I7.out.1)).mono ?_
  rintro e w8 ⟨rfl, hb8⟩
  have I8 := hide (I7.out.call hb8)
  clear hb8
  clear I7
  go_wp2_with fail
  go_ret
  exact I8.out.done
set_option maxRecDepth 100000 in
set_option maxHeartbeats 2000000 in
/-- A Branch to the next one. -/
theorem fnext_same (hC : Hid (CdAt w A2 n2 l)) (hok : FlowOk l) (hx : Hid (l[k]? = some x)) (hterm : termB x.op = false) (h21 : x.op = 21) (hcmp : x.b = (k : Int) + 1) : Calls Tryd.prog 51 #[fv P A1 n1 c1 A2 n2 c2, .int .i64 (k : Int)] w (OutPost [(k : Int) + 1] w) := by
  obtain ⟨i0, hi, hz0, hz1, hz2⟩ := info_parts infoI
  obtain ⟨hk, hxe⟩ := List.getElem?_eq_some_iff.1 hx.out
  have hlen := hC.out.len
  have hn2 := hC.out.few
  obtain ⟨b, off, rfl, hb, x0, -, -, -, -⟩ := ins_at hC.out.see hk
  rw [hxe] at x0
  obtain ⟨W1, hW1⟩ : ∃ W, w.alloc (.cells #[.int .i64 P, .slice A1 n1 c1, .slice (some ⟨b, off, none⟩) n2 c2] 30) = W := ⟨_, rfl⟩
  have R1 := hide (show Row W1 w.heap.size 30 [.int .i64 P, .slice A1 n1 c1, .slice (some ⟨b, off, none⟩) n2 c2] by rw [← hW1]; exact Row.new w _ _)
  have B1 := hide (show Below w.heap.size w W1 by rw [← hW1]; exact below1 w _)
  have HW1 := hide hW1
  clear hW1
  have y0 := keep_cellB B1.out x0
  have ce1 := exists_any P A1 n1 c1 (some ⟨b, off, none⟩) n2 c2 (k : Int) W1
  rw [withB_true.2 ⟨by omega, by omega⟩] at ce1
  have ct := fun W => term_any x.op W
  rw [hterm] at ct
  have hnx := hok.nxt k x hx.out hterm
  have ce2 := fun W => exists_any P A1 n1 c1 (some ⟨b, off, none⟩) n2 c2 ((k : Int) + 1) W
  rw [withB_true.2 ⟨by omega, by omega⟩] at ce2
  have hwk : IntKind.i64.wrap ((k : Int) + 1) = (k : Int) + 1 := by rw [IntKind.wrap_i64]; omega
  have cg := fun W hW => target_any P A1 n1 c1 (some ⟨b, off, none⟩) n2 c2 l k x W hW hx
  have htg : tgtX x = x.b := by unfold tgtX; rw [if_neg (by omega), if_pos h21]
  have hj := hok.brn k x hx.out h21
  obtain ⟨z, hz⟩ : ∃ z, x.b = z := ⟨_, rfl⟩
  rw [htg, hz, withB_true.2 ⟨by omega, by omega⟩] at cg
  rw [hz] at hcmp
  subst hcmp
  clear htg hj hz h21
  have hk0 : (0 : Int) ≤ (k : Int) := by omega
  have hkn : (k : Int) < (n2 : Int) := by omega
  clear x0 hxe hk hlen
  go_enter Tryd.func51, Tryd.ntmps51
  go_upto_region 1 with (fail)
  rw [HW1.out]
  have q0 := R1.out.cell (k := 0) rfl
  have q1 := R1.out.cell (k := 1) rfl
  have q2 := R1.out.cell (k := 2) rfl
  go_wp2_with fail
  refine ce1.mono ?_
  rintro e w2 ⟨rfl, hb2⟩
  have B2 := hide (below_call B1.out hb2)
  have R2 := hide (R1.out.call hb2)
  have y0 := keep_cellB hb2 y0
  clear hb2 ce1 q0 q1 q2 HW1 B1 R1
  have q0 := R2.out.cell (k := 0) rfl
  have q1 := R2.out.cell (k := 1) rfl
  have q2 := R2.out.cell (k := 2) rfl
  go_wp2_with fail
  refine (ct _).mono ?_
  rintro e w' ⟨rfl, rfl⟩
  clear ct
  go_wp2_with fail
  refine (ce2 _).mono ?_
  rintro e w3 ⟨rfl, hb3⟩
  have R3 := hide (R2.out.call hb3)
  have I3 := hide (IntRel.start w w3 (below_call B2.out hb3))
  have HS3 := hide I3.out.2.size
  clear hb3 ce2 q0 q1 q2 y0 B2 R2
  go_upto_region 6 with (at_builtin; refine wpList_append_own _ rfl (.tmp 26) (.tmp 29) 42 rfl w.heap.size 3 i0 (.int .i64 0) 1 8 Tryd.underlying42 hi hz0 hz1 hz2 rfl (by decide) (.slice none 0 0) 0 [] rfl (I3.out.1.alloc _) ⟨w3.heap.size, 0, none⟩ 1 1 [.int .i64 ((k : Int) + 1)] rfl rfl (one_new _ _ _) (one_cell _) (by unfold maxLen; omega) (by omega) (Nat.le_trans HS3.out (by simp)) ?_)
  intro v4 w4 ho4 hg4 _
  have I4 := hide (IntRel.step I3 ho4 hg4)
  have R4 := hide ((R3.out.alloc (.cells #[.int .i64 ((k : Int) + 1)] 3)).grown hg4 (by simp [Value.ownBlock]))
  clear ho4 hg4
  clear I3 R3 HS3 hwk
  have cg := cg w4 (hide (hC.out.below I4.out.2))
  have q0 := R4.out.cell (k := 0) rfl
  have q1 := R4.out.cell (k := 1) rfl
  have q2 := R4.out.cell (k := 2) rfl
  go_upto_region 6 with (fail)
  go_wp2_with fail
  refine cg.mono ?_
  rintro e w5 ⟨rfl, hb5⟩
  have I5 := hide (I4.out.call hb5)
  have HS5 := hide I5.out.2.size
  clear hb5 cg q0 q1 q2 R4 I4
  go_upto_region 9 with (at_builtin; refine wpList_append_own _ rfl (.tmp 38) (.tmp 40) 42 rfl w.heap.size 3 i0 (.int .i64 0) 1 8 Tryd.underlying42 hi hz0 hz1 hz2 rfl (by decide) v4 1 (cellsI [(k : Int) + 1]) rfl (I5.out.1.alloc _) ⟨w5.heap.size, 0, none⟩ 1 1 [.int .i64 ((k : Int) + 1)] rfl rfl (one_new _ _ _) (one_cell _) (by unfold maxLen; omega) (by omega) (Nat.le_trans HS5.out (by simp)) ?_)
  intro v6 w6 ho6 hg6 _
  have I6 := hide (IntRel.step I5 ho6 hg6)
  clear ho6 hg6
  clear I5 HS5
  obtain ⟨g6, c6, rfl, hbg, -, hcap, -⟩ := own_block I6.out.1 (by simp)
  have hcap2 : 2 ≤ c6 := hcap
  go_wp2_with fail
  refine (sort_keep w.heap.size g6 c6 ((k : Int) + 1) ((k : Int) + 1) w6 (by omega) (hide I6.out.1)).mono ?_
  rintro e w7 ⟨rfl, hb7⟩
  have I7 := hide (I6.out.call hb7)
  clear hb7
  clear I6
  go_wp2_with fail
  refine (compact_same w.heap.size g6 c6 ((k : Int) + 1) w7 hcap2 hbg (hide I7.out.1)).mono ?_
  rintro e w8 ⟨rfl, ho8, hg8⟩
  have I8 := hide (I7.out.fewer ho8 hg8)
  clear ho8 hg8
  clear I7
  go_wp2_with fail
  go_ret
  exact I8.out.done
end
/-- flow.Next of a right function, at any number. -/
theorem fnext_any {P : Int} {A1 : Option Addr} {n1 c1 : Nat} {A2 : Option Addr} {n2 c2 : Nat} {l : List Ins} (z : Int) (w : World) (hC : Hid (CdAt w A2 n2 l)) (hok : FlowOk l) : Calls Tryd.prog 51 #[fv P A1 n1 c1 A2 n2 c2, .int .i64 z] w (OutPost (toI (sucZ l z)) w) := by
  have hlen := hC.out.len
  by_cases hz : 0 ≤ z ∧ z < n2
  · obtain ⟨k, rfl⟩ : ∃ k : Nat, z = (k : Int) := ⟨z.toNat, by omega⟩
    have hk : k < l.length := by omega
    have hx := List.getElem?_eq_getElem hk
    rw [sucZ_nat, suc_some hx]
    generalize l[k] = x at hx
    have Hx := hide hx
    by_cases h20 : x.op = 20
    · rw [sucX_jump k h20, show toI [x.a.toNat] = [x.a] by have := hok.jmp k x hx h20; simp [toI]; omega]
      exact fnext_jump hC hok Hx h20
    · by_cases h21 : x.op = 21
      · have hb := hok.brn k x hx h21
        have ht : termB x.op = false := by rw [h21]; rfl
        rcases Int.lt_trichotomy x.b ((k : Int) + 1) with h | h | h
        · rw [sucX_back h21 (by omega), show toI [x.b.toNat, k + 1] = [x.b, (k : Int) + 1] by simp [toI]; omega]
          exact fnext_back hC hok Hx ht h21 h
        · rw [sucX_next h21 (by omega), show toI [k + 1] = [(k : Int) + 1] by simp [toI]]
          exact fnext_same hC hok Hx ht h21 h
        · rw [sucX_fore h21 (by omega), show toI [k + 1, x.b.toNat] = [(k : Int) + 1, x.b] by simp [toI]; omega]
          exact fnext_fore hC hok Hx ht h21 h
      · cases ht : termB x.op with
        | true =>
          rw [sucX_end k (by simp [termB, h20] at ht; exact ht)]
          exact fnext_end hC hok Hx ht h20 h21
        | false =>
          rw [sucX_else k ht h21, show toI [k + 1] = [(k : Int) + 1] by simp [toI]]
          exact fnext_plain hC hok Hx ht h20 h21
  · rw [sucZ_out (by omega)]
    exact fnext_out z (withB_false.2 hz)
end Go.Proofs.YtidlnecgfgnllaaDoor
end
