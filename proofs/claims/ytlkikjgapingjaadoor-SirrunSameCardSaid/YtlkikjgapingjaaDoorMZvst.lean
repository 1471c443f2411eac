import Derived.Test.YtlkikjgapingjaaDoorMZvld
import Derived.Test.YtlkikjgapingjaaDoorMGd
set_option linter.unusedVariables false
set_option linter.unusedSimpArgs false
section
/-
  A step keeps what every state of a run of a right program keeps (chapter 8). Nothing here names the program.
-/
namespace Go.Proofs.YtlkikjgapingjaaDoor
open Go.RowKit

section
variable {F : Pg} {s : Mch}
/-- Imm fields of 64 bits. -/
def ImmF (F : Pg) : Prop := ∀ f ∈ F, ∀ x ∈ f.code, 0 ≤ x.imm ∧ x.imm ≤ 18446744073709551615
theorem vopnd_reg {N : Nat} {f : Fn} {n : Int} (h : opndE N f 6 n = 0) : n.toNat < f.code.length := by
  have h1 := withB_true.1 (opndE_zero.1 h)
  have : cntV N f 6 = f.code.length := rfl
  omega
theorem vopnd_fn {N : Nat} {f : Fn} {n : Int} (h : opndE N f 3 n = 0) : n.toNat < N := by
  have h1 := withB_true.1 (opndE_zero.1 h)
  have : cntV N f 3 = N := rfl
  omega
theorem fn_of {F : Pg} (hF : pgE F = 0) {n : Nat} {f : Fn} (h : F[n]? = some f) : fnE F.length f = 0 := (pgE_zero.1 hF).2.2 f (List.mem_of_getElem? h)
theorem closed_some {l : List Ins} (h : closedB l = true) : 1 ≤ l.length := by
  cases l with
  | nil => cases h
  | cons a r => simp
theorem fetched_st (h : Vld F s) : s.fetched.st.length = s.st.length ∧ s.fetched.st.dropLast = s.st.dropLast := by
  obtain ⟨ys, z, e, ht, hd⟩ := h.split
  have hst : s.fetched.st = s.st.dropLast ++ [{ s.top with pc := s.top.pc + 1 }] := rfl
  exact ⟨by rw [hst, hd, e]; simp, by rw [hst, List.dropLast_concat]⟩
theorem vld_step (hF : pgE F = 0) (him : ImmF F) (h : Vld F s) : (s.stepM F).ended = true ∨ Vld F (s.stepM F) := by
  obtain ⟨f, hf, hp, hx⟩ := h.next_at
  obtain ⟨hc, _, _, hins, hcl⟩ := fnE_zero.1 (fn_of hF hf)
  have hxm := List.mem_of_getElem? hx
  have hxe := hins _ hxm
  have hxi := him f (List.mem_of_getElem? hf) _ hxm
  obtain ⟨ho, e1, e2, e3, e4, _⟩ := insE_zero.1 hxe
  obtain ⟨hfl, hfd⟩ := fetched_st h
  unfold Mch.stepM Mch.exec
  generalize hxx : s.next F = x at *
  obtain ⟨op, xa, xb, xc, imm⟩ := x
  dsimp only at *
  by_cases h1 : 15 ≤ op ∧ op ≤ 19
  · rw [if_pos h1]
    have hnt : termB op = false := by
      unfold termB
      simp only [Bool.or_eq_false_iff, beq_eq_false_iff_ne]
      omega
    exact .inr ((h.fetched hf (not_last hcl hx hnt)).accessM _)
  · rw [if_neg h1]
    by_cases h2 : 20 ≤ op ∧ op ≤ 24
    · rw [if_pos h2]
      unfold Mch.transferM
      dsimp only
      rcases (show op = 20 ∨ op = 21 ∨ op = 22 ∨ op = 23 ∨ op = 24 by omega) with rfl | rfl | rfl | rfl | rfl
      · rw [if_pos rfl, fetched_jump h]
        exact .inr (h.jumped hf (vopnd_reg e1))
      · rw [if_neg (by decide), if_pos rfl]
        split
        · exact .inr (h.fetched hf (not_last hcl hx rfl))
        · rw [fetched_jump h]
          exact .inr (h.jumped hf (vopnd_reg e2))
      · rw [if_neg (by decide), if_neg (by decide), if_pos rfl]
        have hn := vopnd_fn e1
        obtain ⟨f2, hf2⟩ : ∃ f2, F[xa.toNat]? = some f2 := ⟨_, List.getElem?_eq_getElem hn⟩
        refine .inr ((h.fetched hf (not_last hcl hx rfl)).enter hf2 (closed_some (fnE_zero.1 (fn_of hF hf2)).2.2.2.2) ?_)
        have := h.len
        show s.fetched.st.length + 1 ≤ s.steps + 1 + 1
        omega
      · rw [if_neg (by decide), if_neg (by decide), if_neg (by decide), if_pos rfl]
        unfold Mch.leave
        dsimp only
        split
        · exact .inl rfl
        · rename_i hl
          rw [hfl] at hl
          rw [hfd]
          obtain ⟨ys, z, e, ht, hd⟩ := h.split
          have hyl : s.st.length = ys.length + 1 := by rw [e]; simp
          refine .inr ⟨h.r8, h.rv, h.iv, ?_, fun a ha => ?_, fun a ha => ?_, fun a ha => ?_, ?_, ?_, ?_⟩
          · show 1 ≤ s.st.dropLast.length
            rw [hd]; omega
          · exact h.fn a (List.dropLast_subset _ ha)
          · exact h.cv a (List.dropLast_subset _ ha)
          · refine h.zero a ?_
            have ha2 : ys[0]? = some a := by rw [← hd]; exact ha
            rw [e, List.getElem?_append_left (by omega)]
            exact ha2
          · show s.st.dropLast.length ≤ s.steps + 1 + 1
            have := h.len
            rw [List.length_dropLast]
            omega
          · have := h.dep
            show s.depth ≤ s.steps + 1 + 1
            omega
          · have := h.tl
            show s.trace.length ≤ s.steps + 1
            omega
      · rw [if_neg (by decide), if_neg (by decide), if_neg (by decide), if_neg (by decide)]
        exact .inl rfl
    · rw [if_neg h2]
      have hnt : termB op = false := by
        unfold termB
        simp only [Bool.or_eq_false_iff, beq_eq_false_iff_ne]
        omega
      refine .inr ((h.fetched hf (not_last hcl hx hnt)).computeM _ hxi ?_)
      have := h.tl
      show s.trace.length + 1 ≤ s.steps + 1
      omega
theorem vld_start (hF : pgE F = 0) {inp : List Nat} (hi : ∀ v ∈ inp, v < 18446744073709551616) : Vld F (startM inp) := by
  obtain ⟨_, ⟨f, r, e, hp⟩, hall⟩ := pgE_zero.1 hF
  refine ⟨by simp [startM], fun V hV => ?_, hi, Nat.le_refl _, fun a ha => ?_, fun a ha => ?_, fun a ha => ?_, Nat.le_refl _, Nat.le_refl _, Nat.le_refl _⟩
  · have : V = 0 := by simpa [startM] using hV
    rw [this]; decide
  · obtain rfl : a = ⟨0, 0, noC, noC⟩ := by simpa [startM] using ha
    exact ⟨f, by rw [e]; rfl, closed_some (fnE_zero.1 (hall f (by rw [e]; simp))).2.2.2.2⟩
  · obtain rfl : a = ⟨0, 0, noC, noC⟩ := by simpa [startM] using ha
    exact ⟨(fun i v hv => by cases hv), (fun i v hv => by cases hv)⟩
  · have : (⟨0, 0, noC, noC⟩ : Acn) = a := by simpa [startM] using ha
    rw [← this]
end
end Go.Proofs.YtlkikjgapingjaaDoor
end
