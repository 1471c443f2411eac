/-
  The mathematics of the law on operands: a changed operand of a right program is noticed. Nothing here names the program.
-/
import Derived.Test.YtlfifdpklmnmpaaDoorPgood
import Derived.Test.YtlfifdpklmnmpaaDoorPeq
namespace Go.Proofs.YtlfifdpklmnmpaaDoor
open Go.RowKit

theorem opnd_far {N : Nat} {f : Fn} {k a : Int} (hN : N ≤ 80) (hs : f.slots.length ≤ 512) (hp : f.params ≤ 8) (hc : f.code.length ≤ 1024) (h : opndE N f k a = 0) : opndE N f k (a + 1048576) ≠ 0 := by
  have hle := cntV_le (k := k) hN hs hp hc
  have h1 := withB_true.1 (opndE_zero.1 h)
  intro h2
  have h3 := withB_true.1 (opndE_zero.1 h2)
  omega
section
variable {N : Nat} {f : Fn} {x : Ins} (hN : N ≤ 80) (hs : f.slots.length ≤ 512) (hp : f.params ≤ 8) (hc : f.code.length ≤ 1024) (h : insE N f x = 0)
include hN hs hp hc h
theorem bad_a : insE N f ⟨x.op, x.a + 1048576, x.b, x.c, x.imm⟩ ≠ 0 := fun h2 => opnd_far hN hs hp hc (insE_zero.1 h).2.1 (insE_zero.1 h2).2.1
theorem bad_b : insE N f ⟨x.op, x.a, x.b + 1048576, x.c, x.imm⟩ ≠ 0 := fun h2 => opnd_far hN hs hp hc (insE_zero.1 h).2.2.1 (insE_zero.1 h2).2.2.1
theorem bad_c : insE N f ⟨x.op, x.a, x.b, x.c + 1048576, x.imm⟩ ≠ 0 := fun h2 => opnd_far hN hs hp hc (insE_zero.1 h).2.2.2.1 (insE_zero.1 h2).2.2.2.1
omit hN hs hp hc in
theorem bad_op : insE N f ⟨x.op + 25, x.a, x.b, x.c, x.imm⟩ ≠ 0 := fun h2 => by
  have h1 := (insE_zero.1 h).1
  have h3 := (insE_zero.1 h2).1
  simp only at h3
  omega
end
theorem ins_bounds {N : Nat} {f : Fn} {x : Ins} (hN : N ≤ 80) (hs : f.slots.length ≤ 512) (hp : f.params ≤ 8) (hc : f.code.length ≤ 1024) (h : insE N f x = 0) : (0 ≤ x.op ∧ x.op < 25) ∧ (0 ≤ x.a ∧ x.a ≤ 1024) ∧ (0 ≤ x.b ∧ x.b ≤ 1024) ∧ (0 ≤ x.c ∧ x.c ≤ 1024) := by
  obtain ⟨h0, h1, h2, h3, _⟩ := insE_zero.1 h
  have c1 := cntV_le (k := (shpOf x.op).1) hN hs hp hc
  have c2 := cntV_le (k := (shpOf x.op).2.1) hN hs hp hc
  have c3 := cntV_le (k := (shpOf x.op).2.2.1) hN hs hp hc
  have w1 := withB_true.1 (opndE_zero.1 h1)
  have w2 := withB_true.1 (opndE_zero.1 h2)
  have w3 := withB_true.1 (opndE_zero.1 h3)
  exact ⟨h0, ⟨by omega, by omega⟩, ⟨by omega, by omega⟩, ⟨by omega, by omega⟩⟩
/-- A program with a changed instruction. -/
theorem set_bad {F : Pg} {i k : Nat} {f : Fn} {x x' : Ins} (hf : F[i]? = some f) (hx : f.code[k]? = some x) (hbad : insE F.length f x' ≠ 0) (hne : x' ≠ x) :
    insE F.length ⟨f.params, f.slots, f.code.set k x'⟩ x' ≠ 0 ∧ pgE (F.set i ⟨f.params, f.slots, f.code.set k x'⟩) ≠ 0 ∧ F ≠ F.set i ⟨f.params, f.slots, f.code.set k x'⟩ := by
  have hi : i < F.length := (List.getElem?_eq_some_iff.1 hf).1
  have hk : k < f.code.length := (List.getElem?_eq_some_iff.1 hx).1
  have hb : insE F.length ⟨f.params, f.slots, f.code.set k x'⟩ x' ≠ 0 := by
    rw [insE_congr (f := ⟨f.params, f.slots, f.code.set k x'⟩) (f' := f) rfl rfl (by simp)]; exact hbad
  refine ⟨hb, fun h => ?_, fun h => ?_⟩
  · have h1 := (pgE_zero.1 h).2.2 ⟨f.params, f.slots, f.code.set k x'⟩ (List.mem_of_getElem? (i := i) (by rw [List.getElem?_set_self hi]))
    have h2 := (fnE_zero.1 h1).2.2.2.1 x' (List.mem_of_getElem? (i := k) (by simp only; rw [List.getElem?_set_self hk]))
    rw [List.length_set] at h2
    exact hb h2
  · have h1 : (F.set i ⟨f.params, f.slots, f.code.set k x'⟩)[i]? = some f := by rw [← h]; exact hf
    rw [List.getElem?_set_self hi] at h1
    injection h1 with h1
    have h2 : f.code.set k x' = f.code := by rw [← h1]; simp
    have h3 : (f.code.set k x')[k]? = some x := by rw [h2]; exact hx
    rw [List.getElem?_set_self hk] at h3
    injection h3 with h3
    exact hne h3
end Go.Proofs.YtlfifdpklmnmpaaDoor
