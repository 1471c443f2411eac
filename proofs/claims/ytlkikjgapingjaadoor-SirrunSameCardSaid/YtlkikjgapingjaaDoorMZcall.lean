import Derived.Test.YtlkikjgapingjaaDoorMZapp
set_option linter.unusedVariables false
set_option linter.unusedSimpArgs false
section
/-
  The contract of the machine's compute (chapter 8), whatever the operation. Conditions: those of the types.
-/
namespace Go.Proofs.YtlkikjgapingjaaDoor
open Go.RowKit

/-- Values and numbers of the types; few of them. -/
structure Small (s : Mch) : Prop where
  rv : ∀ V ∈ s.regs, V < two128
  iv : ∀ v ∈ s.inp, v < 18446744073709551616
  tl : s.trace.length ≤ 1000000
section
variable {g base : Nat} {vi vt vf vs : Value} {zs : List Zn} {s : Mch}
theorem Small.reg {s : Mch} (h : Small s) (i : Nat) : s.regs.getD i 0 < two128 := by
  rw [List.getD_eq_getElem?_getD]
  cases e : s.regs[i]? with
  | none => decide
  | some V => exact h.rv V (List.mem_of_getElem? e)
set_option maxHeartbeats 4000000 in
theorem compute_rest (op : Int) (a b c V U : Nat) (imm : Int) (w : World) (ha : a < 8) (hb : b < 8) (hc : c < 8) (hop : 2 ≤ op ∧ op ≤ 10) (hV : Hid (s.regs.getD b 0 = V)) (hU : Hid (s.regs.getD c 0 = U)) (hV2 : Hid (V < two128)) (hU2 : Hid (U < two128)) (h : Hid (MRaw w g base vi vt vf vs zs s)) :
    Calls Tryd.prog 37 #[.pointer (some ⟨g, 0, none⟩), iv op (a : Int) (b : Int) (c : Int) imm] w fun e w' => e = .returned (.tuple #[]) ∧ MRaw w' g base vi vt vf vs zs (if opOk op U then s.setR (a : Int) (opRes op V U) else s.stop 2) ∧ Below base w w' := by
  have hgl := h.out.gl
  have o0 : (op == 0) = false := by rw [beq_eq_false_iff_ne]; omega
  have o1 : (op == 1) = false := by rw [beq_eq_false_iff_ne]; omega
  have o2 : (op == 11) = false := by rw [beq_eq_false_iff_ne]; omega
  have o3 : (op == 12) = false := by rw [beq_eq_false_iff_ne]; omega
  have o4 : (op == 13) = false := by rw [beq_eq_false_iff_ne]; omega
  have o5 : (op == 14) = false := by rw [beq_eq_false_iff_ne]; omega
  clear hop
  obtain ⟨S2, hS2⟩ : ∃ S2, (if opOk op U then s.setR (a : Int) (opRes op V U) else s.stop 2) = S2 := ⟨_, rfl⟩
  have ca := fun W hW => capply_any op a b c V U imm W ha hb hc hV hU hV2 hU2 (vi := vi) (vt := vt) (vf := vf) (vs := vs) (zs := zs) (g := g) (base := base) hW
  rw [hS2] at ca
  rw [hS2]
  clear hS2
  go_enter Tryd.func37, Tryd.ntmps37
  obtain ⟨X, hX⟩ : ∃ X, w.heap.size = X := ⟨_, rfl⟩
  obtain ⟨W1, hW1⟩ : ∃ W1, w.alloc (.cells #[.int .i64 op, .int .i64 (a : Int), .int .i64 (b : Int), .int .i64 (c : Int), .int .u64 imm] 47) = W1 := ⟨_, rfl⟩
  have R1 := hide (show Row W1 X 47 [.int .i64 op, .int .i64 (a : Int), .int .i64 (b : Int), .int .i64 (c : Int), .int .u64 imm] by rw [← hW1, ← hX]; exact Row.new w _ _)
  have H1 := hide (show MRaw W1 g base vi vt vf vs zs s by rw [← hW1]; exact h.out.alloc _)
  have B1 := hide (show Below base w W1 by rw [← hW1]; exact (Below.refl _ _).alloc h.out.bl _)
  have HX := hide hX
  have HW1 := hide hW1
  clear hX hW1
  go_upto_region 1 with (fail)
  rw [HW1.out, HX.out]
  have x0 := R1.out.cell (k := 0) rfl
  have x1 := R1.out.cell (k := 1) rfl
  have x2 := R1.out.cell (k := 2) rfl
  have x3 := R1.out.cell (k := 3) rfl
  have x4 := R1.out.cell (k := 4) rfl
  go_wp2_with fail
  refine (ca W1 H1).mono ?_
  rintro e w5 ⟨rfl, h5, hb5⟩
  have H5 := hide h5
  have B5 := hide (B1.out.trans hb5)
  clear h5 hb5 ca
  go_wp2_with fail
  go_end0
  exact ⟨rfl, H5.out, B5.out⟩
theorem kind_reg {N : Nat} {f : Fn} {n : Int} (h : opndE N f 1 n = 0) : ∃ i : Nat, n = (i : Int) ∧ i < 8 := by
  have h1 := withB_true.1 (opndE_zero.1 h)
  have : cntV N f 1 = 8 := rfl
  exact ⟨n.toNat, by omega, by omega⟩
theorem kind_none {N : Nat} {f : Fn} {n : Int} (h : opndE N f 0 n = 0) : n = 0 := by
  have h1 := withB_true.1 (opndE_zero.1 h)
  have : cntV N f 0 = 1 := rfl
  omega
theorem shp_mid {op : Int} (h : 2 ≤ op ∧ op ≤ 11) : shpOf op = (1, 1, 1, false) := by
  rcases (show op = 2 ∨ op = 3 ∨ op = 4 ∨ op = 5 ∨ op = 6 ∨ op = 7 ∨ op = 8 ∨ op = 9 ∨ op = 10 ∨ op = 11 by omega) with rfl | rfl | rfl | rfl | rfl | rfl | rfl | rfl | rfl | rfl <;> rfl
def ivI (x : Ins) : Value := iv x.op x.a x.b x.c x.imm
theorem compute_any {N : Nat} {f : Fn} (x : Ins) (w : World) (hx : insE N f x = 0) (hop : x.op < 15) (hm : 0 ≤ x.imm ∧ x.imm ≤ 18446744073709551615) (hs : Small s) (h : Hid (MRaw w g base vi vt vf vs zs s)) :
    Calls Tryd.prog 37 #[.pointer (some ⟨g, 0, none⟩), ivI x] w fun e w' => e = .returned (.tuple #[]) ∧ (∃ vi' vt', MRaw w' g base vi' vt' vf vs zs (s.computeM x)) ∧ Below base w w' := by
  obtain ⟨ho, e1, e2, e3, e4, _⟩ := insE_zero.1 hx
  obtain ⟨op, xa, xb, xc, imm⟩ := x
  dsimp only at *
  unfold ivI
  dsimp only
  by_cases h0 : op = 0
  · subst h0
    obtain ⟨a, rfl, ha⟩ := kind_reg e1
    obtain rfl := kind_none e2
    obtain rfl := kind_none e3
    exact (compute_0 a imm w ha hm h).mono fun e w' ⟨q1, q2, q3⟩ => ⟨q1, ⟨_, _, q2⟩, q3⟩
  by_cases h1 : op = 1
  · subst h1
    obtain ⟨a, rfl, ha⟩ := kind_reg e1
    obtain ⟨b, rfl, hb⟩ := kind_reg e2
    obtain rfl := kind_none e3
    obtain rfl : imm = 0 := e4.resolve_left (by decide)
    exact (compute_1 a b _ w ha hb (hide rfl) h).mono fun e w' ⟨q1, q2, q3⟩ => ⟨q1, ⟨_, _, by rw [← reg_nat] at q2; exact q2⟩, q3⟩
  by_cases h11 : op = 11
  · subst h11
    obtain ⟨a, rfl, ha⟩ := kind_reg e1
    obtain ⟨b, rfl, hb⟩ := kind_reg e2
    obtain ⟨c, rfl, hc⟩ := kind_reg e3
    obtain rfl : imm = 0 := e4.resolve_left (by decide)
    exact (compute_11 a b c _ _ w ha hb (hide rfl) hc (hide rfl) h).mono fun e w' ⟨q1, q2, q3⟩ => ⟨q1, ⟨_, _, by rw [← reg_nat, ← reg_nat] at q2; exact q2⟩, q3⟩
  by_cases h12 : op = 12
  · subst h12
    obtain ⟨a, rfl, ha⟩ := kind_reg e1
    obtain ⟨b, rfl, hb⟩ := kind_reg e2
    obtain rfl := kind_none e3
    obtain rfl : imm = 0 := e4.resolve_left (by decide)
    exact (compute_12 a b _ w ha hb (hide rfl) h).mono fun e w' ⟨q1, q2, q3⟩ => ⟨q1, ⟨_, _, by rw [← reg_nat] at q2; exact q2⟩, q3⟩
  by_cases h13 : op = 13
  · subst h13
    obtain ⟨a, rfl, ha⟩ := kind_reg e1
    obtain rfl := kind_none e2
    obtain rfl := kind_none e3
    obtain rfl : imm = 0 := e4.resolve_left (by decide)
    have hh : s.inp.headD 0 < 18446744073709551616 := by
      cases hi : s.inp with
      | nil => decide
      | cons v r => exact hs.iv v (by rw [hi]; simp)
    exact (compute_13 a _ w ha (hide rfl) (hide hh) h).mono fun e w' ⟨q1, ⟨_, q2⟩, q3⟩ => ⟨q1, ⟨_, _, q2⟩, q3⟩
  by_cases h14 : op = 14
  · subst h14
    obtain ⟨a, rfl, ha⟩ := kind_reg e1
    obtain rfl := kind_none e2
    obtain rfl := kind_none e3
    obtain rfl : imm = 0 := e4.resolve_left (by decide)
    exact (compute_14 a _ w ha (hide rfl) (hide hs.tl) h).mono fun e w' ⟨q1, ⟨_, q2⟩, q3⟩ => ⟨q1, ⟨_, _, by rw [← reg_nat] at q2; exact q2⟩, q3⟩
  · have hmid : 2 ≤ op ∧ op ≤ 10 := by omega
    rw [shp_mid ⟨hmid.1, by omega⟩] at e1 e2 e3 e4
    obtain ⟨a, rfl, ha⟩ := kind_reg e1
    obtain ⟨b, rfl, hb⟩ := kind_reg e2
    obtain ⟨c, rfl, hc⟩ := kind_reg e3
    refine (compute_rest op a b c _ _ imm w ha hb hc hmid (hide rfl) (hide rfl) (hide (hs.reg b)) (hide (hs.reg c)) h).mono fun e w' ⟨q1, q2, q3⟩ => ⟨q1, ⟨vi, vt, ?_⟩, q3⟩
    rw [← reg_nat, ← reg_nat] at q2
    unfold Mch.computeM Mch.applyM
    rw [if_neg h0, if_neg h1, if_neg h11, if_neg h12, if_neg h13, if_neg h14]
    exact q2
end
end Go.Proofs.YtlkikjgapingjaaDoor
end
