import Derived.Test.YtlkcjjalkdlicaaDoorMVbytem
import Derived.Test.YtlkcjjalkdlicaaDoorMPmath
set_option linter.unusedVariables false
set_option linter.unusedSimpArgs false
section
/-
  What every state of a run of a right program keeps (chapter 8). Nothing here names the program.
-/
namespace Go.Proofs.YtlkcjjalkdlicaaDoor
open Go.RowKit

/-- A state from which a run of F goes on. -/
structure Vld (F : Pg) (s : Mch) : Prop where
  r8 : s.regs.length = 8
  rv : ∀ V ∈ s.regs, V < two128
  iv : ∀ v ∈ s.inp, v < 18446744073709551616
  ne : 1 ≤ s.st.length
  fn : ∀ a ∈ s.st, ∃ f, F[a.f]? = some f ∧ a.pc < f.code.length
  cv : ∀ a ∈ s.st, (∀ i v, a.sl i = some v → v < two128) ∧ (∀ i v, a.ar i = some v → v < two128)
  zero : ∀ a, s.st[0]? = some a → a.f = 0
  len : s.st.length ≤ s.steps + 1
  dep : s.depth ≤ s.steps + 1
  tl : s.trace.length ≤ s.steps
section
variable {F : Pg} {s : Mch}
theorem Vld.split (h : Vld F s) : ∃ ys z, s.st = ys ++ [z] ∧ s.top = z ∧ s.st.dropLast = ys := by
  have hn : s.st ≠ [] := by intro e; have := h.ne; rw [e] at this; simp at this
  obtain ⟨ys, z, e⟩ : ∃ ys z, s.st = ys ++ [z] := ⟨s.st.dropLast, s.st.getLast hn, (List.dropLast_concat_getLast hn).symm⟩
  refine ⟨ys, z, e, ?_, by rw [e, List.dropLast_concat]⟩
  unfold Mch.top
  rw [e, List.getLastD_concat]
theorem Vld.next_at (h : Vld F s) : ∃ f, F[s.top.f]? = some f ∧ s.top.pc < f.code.length ∧ f.code[s.top.pc]? = some (s.next F) := by
  obtain ⟨ys, z, e, ht, _⟩ := h.split
  obtain ⟨f, h1, h2⟩ := h.fn z (by rw [e]; simp)
  rw [ht]
  refine ⟨f, h1, h2, ?_⟩
  have eF : F.getD z.f ⟨0, [], []⟩ = f := by rw [List.getD_eq_getElem?_getD, h1]; rfl
  unfold Mch.next insAt
  rw [ht, eF, List.getD_eq_getElem?_getD, List.getElem?_eq_getElem h2]
  rfl
theorem Vld.reg (h : Vld F s) (i : Int) : s.reg i < two128 := by
  unfold Mch.reg
  rw [List.getD_eq_getElem?_getD]
  cases e : s.regs[i.toNat]? with
  | none => decide
  | some V => exact h.rv V (List.mem_of_getElem? e)
theorem Vld.setR (h : Vld F s) (i : Int) {v : Nat} (hv : v < two128) : Vld F (s.setR i v) :=
  ⟨by show (s.regs.set _ _).length = 8; rw [List.length_set]; exact h.r8, fun V hV => by
    rcases List.mem_or_eq_of_mem_set hV with h1 | h1
    · exact h.rv V h1
    · rw [h1]; exact hv, h.iv, h.ne, h.fn, h.cv, h.zero, h.len, h.dep, h.tl⟩
theorem Vld.stop (h : Vld F s) (k : Int) : Vld F (s.stop k) := ⟨h.r8, h.rv, h.iv, h.ne, h.fn, h.cv, h.zero, h.len, h.dep, h.tl⟩
theorem Vld.read (h : Vld F s) (o : Option Nat) : Vld F (s.read o) := by
  unfold Mch.read
  split
  · exact h.stop 3
  · exact h
/-- Another activation runs, of the same function. -/
theorem Vld.setTop (h : Vld F s) (a : Acn) (hf : a.f = s.top.f) (hp : ∃ f, F[a.f]? = some f ∧ a.pc < f.code.length) (hc : (∀ i v, a.sl i = some v → v < two128) ∧ (∀ i v, a.ar i = some v → v < two128)) : Vld F (s.setTop a) := by
  obtain ⟨ys, z, e, ht, hd⟩ := h.split
  have hst : (s.setTop a).st = ys ++ [a] := by show s.st.dropLast ++ [a] = _; rw [hd]
  have hl : (s.setTop a).st.length = s.st.length := by rw [hst, e]; simp
  refine ⟨h.r8, h.rv, h.iv, by rw [hl]; exact h.ne, fun b hb => ?_, fun b hb => ?_, fun b hb => ?_, by rw [hl]; exact h.len, h.dep, h.tl⟩
  · rw [hst] at hb
    rcases List.mem_append.1 hb with hb | hb
    · exact h.fn b (by rw [e]; exact List.mem_append_left _ hb)
    · obtain rfl : b = a := by simpa using hb
      exact hp
  · rw [hst] at hb
    rcases List.mem_append.1 hb with hb | hb
    · exact h.cv b (by rw [e]; exact List.mem_append_left _ hb)
    · obtain rfl : b = a := by simpa using hb
      exact hc
  · rw [hst] at hb
    cases ys with
    | nil =>
      have hb : a = b := by simpa using hb
      rw [← hb, hf, ht]
      exact h.zero z (by rw [e]; rfl)
    | cons y r =>
      have hb : y = b := by simpa using hb
      rw [← hb]
      exact h.zero y (by rw [e]; rfl)
theorem Vld.counted (h : Vld F s) : Vld F { s with steps := s.steps + 1 } := ⟨h.r8, h.rv, h.iv, h.ne, h.fn, h.cv, h.zero, by have := h.len; show s.st.length ≤ s.steps + 1 + 1; omega, by have := h.dep; show s.depth ≤ s.steps + 1 + 1; omega, by have := h.tl; show s.trace.length ≤ s.steps + 1; omega⟩
theorem Vld.top_cv (h : Vld F s) : (∀ i v, s.top.sl i = some v → v < two128) ∧ (∀ i v, s.top.ar i = some v → v < two128) := by
  obtain ⟨ys, z, e, ht, _⟩ := h.split
  rw [ht]
  exact h.cv z (by rw [e]; simp)
theorem Vld.jumped (h : Vld F s) {n : Nat} {f : Fn} (hf : F[s.top.f]? = some f) (hn : n < f.code.length) : Vld F (({ s with steps := s.steps + 1 } : Mch).jump n) :=
  h.counted.setTop _ rfl ⟨f, hf, hn⟩ h.top_cv
theorem Vld.fetched (h : Vld F s) {f : Fn} (hf : F[s.top.f]? = some f) (hn : s.top.pc + 1 < f.code.length) : Vld F s.fetched := h.jumped hf hn
theorem fetched_top (h : Vld F s) : s.fetched.top = { s.top with pc := s.top.pc + 1 } := by
  unfold Mch.fetched Mch.jump Mch.setTop Mch.top
  dsimp only
  rw [List.getLastD_concat]
theorem fetched_jump (h : Vld F s) (n : Nat) : s.fetched.jump n = ({ s with steps := s.steps + 1 } : Mch).jump n := by
  have ht := fetched_top h
  unfold Mch.jump at *
  unfold Mch.setTop
  rw [ht]
  unfold Mch.fetched Mch.jump Mch.setTop
  dsimp only
  rw [List.dropLast_concat]
  rfl
theorem not_last {l : List Ins} {k : Nat} {x : Ins} (h : closedB l = true) (hx : l[k]? = some x) (ht : termB x.op = false) : k + 1 < l.length := by
  have hk := (List.getElem?_eq_some_iff.1 hx).1
  rcases Nat.lt_or_ge (k + 1) l.length with h1 | h1
  · exact h1
  · exfalso
    unfold closedB at h
    have : l.getLast? = some x := by rw [List.getLast?_eq_getElem?, show l.length - 1 = k by omega]; exact hx
    rw [this] at h
    dsimp only at h
    rw [h] at ht
    cases ht
theorem lt64 {n : Nat} (h : n < 18446744073709551616) : n < two128 := by unfold two128; omega
theorem Vld.computeM (h : Vld F s) (x : Ins) (hm : 0 ≤ x.imm ∧ x.imm ≤ 18446744073709551615) (hsp : s.trace.length + 1 ≤ s.steps) : Vld F (s.computeM x) := by
  unfold Mch.computeM
  split
  · exact h.setR _ (lt64 (by omega))
  · split
    · exact h.setR _ (h.reg _)
    · split
      · exact h.setR _ (by unfold pairV two128; omega)
      · split
        · exact h.setR _ (by unfold highV two128; omega)
        · split
          · have h2 : Vld F { s with inp := s.inp.tail } := ⟨h.r8, h.rv, fun v hv => h.iv v (List.mem_of_mem_tail hv), h.ne, h.fn, h.cv, h.zero, h.len, h.dep, h.tl⟩
            refine h2.setR _ (lt64 ?_)
            cases e : s.inp with
            | nil => decide
            | cons v r => exact h.iv v (by rw [e]; simp)
          · split
            · exact ⟨h.r8, h.rv, h.iv, h.ne, h.fn, h.cv, h.zero, h.len, h.dep, by show (s.trace ++ [_]).length ≤ s.steps; rw [List.length_append]; exact hsp⟩
            · unfold Mch.applyM
              split
              · exact h.setR _ (opRes_lt _ _ _ (h.reg _) (h.reg _))
              · exact h.stop 2
theorem updC_lt {m : Cl} {i : Int} {v : Nat} (hm : ∀ i v, m i = some v → v < two128) (hv : v < two128) : ∀ j u, updC m i v j = some u → u < two128 := fun j u hu => by
  unfold updC at hu
  split at hu
  · injection hu with hu; rw [← hu]; exact hv
  · exact hm j u hu
theorem getD_lt {o : Option Nat} (h : ∀ v, o = some v → v < two128) : o.getD 0 < two128 := by
  cases o with
  | none => decide
  | some v => exact h v rfl
theorem Vld.caller_cv (h : Vld F s) : (∀ i v, s.caller.ar i = some v → v < two128) := fun i v hv => by
  unfold Mch.caller at hv
  rw [List.getD_eq_getElem?_getD] at hv
  cases e : s.st[s.st.length - 2]? with
  | none => rw [e] at hv; cases hv
  | some a => rw [e] at hv; exact (h.cv a (List.mem_of_getElem? e)).2 i v hv
theorem Vld.top_fn (h : Vld F s) : ∃ f, F[s.top.f]? = some f ∧ s.top.pc < f.code.length := by
  obtain ⟨f, h1, h2, _⟩ := h.next_at
  exact ⟨f, h1, h2⟩
theorem read_top (s : Mch) (o : Option Nat) : (s.read o).top = s.top := by unfold Mch.read; split <;> rfl
theorem Vld.accessM (h : Vld F s) (x : Ins) : Vld F (s.accessM F x) := by
  have hc := h.top_cv
  unfold Mch.accessM
  split
  · exact (h.read _).setR _ (getD_lt fun v hv => hc.1 _ v hv)
  · split
    · exact h.setTop _ rfl h.top_fn ⟨updC_lt hc.1 (truncV_lt _ _), hc.2⟩
    · split
      · exact (h.read _).setTop _ (by rw [read_top]) h.top_fn ⟨updC_lt hc.1 (getD_lt fun v hv => hc.1 _ v hv), hc.2⟩
      · split
        · exact h.setTop _ rfl h.top_fn ⟨hc.1, updC_lt hc.2 (h.reg _)⟩
        · exact (h.read _).setR _ (getD_lt fun v hv => h.caller_cv _ v hv)
theorem Vld.enter (h : Vld F s) {n : Nat} {f : Fn} (hf : F[n]? = some f) (hc : 1 ≤ f.code.length) (hs : s.st.length + 1 ≤ s.steps + 1) : Vld F (s.enter n) := by
  have hst : (s.enter n).st = s.st ++ [⟨n, 0, noC, noC⟩] := rfl
  refine ⟨h.r8, h.rv, h.iv, by rw [hst]; simp, fun a ha => ?_, fun a ha => ?_, fun a ha => ?_, by rw [hst, List.length_append]; exact hs, ?_, h.tl⟩
  · rw [hst] at ha
    rcases List.mem_append.1 ha with ha | ha
    · exact h.fn a ha
    · obtain rfl : a = ⟨n, 0, noC, noC⟩ := by simpa using ha
      exact ⟨f, hf, hc⟩
  · rw [hst] at ha
    rcases List.mem_append.1 ha with ha | ha
    · exact h.cv a ha
    · obtain rfl : a = ⟨n, 0, noC, noC⟩ := by simpa using ha
      exact ⟨(fun i v hv => by cases hv), (fun i v hv => by cases hv)⟩
  · rw [hst] at ha
    refine h.zero a ?_
    rwa [List.getElem?_append_left (by have := h.ne; omega)] at ha
  · show max s.depth (s.st.length + 1) ≤ s.steps + 1
    have := h.dep
    omega
end
end Go.Proofs.YtlkcjjalkdlicaaDoor
end

section
/-
  A step keeps what every state of a run of a right program keeps (chapter 8). Nothing here names the program.
-/
namespace Go.Proofs.YtlkcjjalkdlicaaDoor
open Go.RowKit

section
variable {F : Pg} {s : Mch}
/-- Imm fields of 64 bits. -/
def ImmF (F : Pg) : Prop := ∀ f ∈ F, ∀ x ∈ f.code, 0 ≤ x.imm ∧ x.imm ≤ 18446744073709551615
theorem vopnd_reg {N : Nat} {f : Fn} {n : Int} (h : opndE N f 6 n = 0) : n.toNat < f.code.length := by
  have h1 := withB_true.1 (opndE_zero.1 h)
  have : cntV N f 6 = f.code.length := rfl
  omega
theorem vopnd_fn {N : Nat} {f : Fn} {n : Int} (h : opndE N f 3 n = 0) : n.toNat < N := by
  have h1 := withB_true.1 (opndE_zero.1 h)
  have : cntV N f 3 = N := rfl
  omega
theorem fn_of {F : Pg} (hF : pgE F = 0) {n : Nat} {f : Fn} (h : F[n]? = some f) : fnE F.length f = 0 := (pgE_zero.1 hF).2.2 f (List.mem_of_getElem? h)
theorem closed_some {l : List Ins} (h : closedB l = true) : 1 ≤ l.length := by
  cases l with
  | nil => cases h
  | cons a r => simp
theorem fetched_st (h : Vld F s) : s.fetched.st.length = s.st.length ∧ s.fetched.st.dropLast = s.st.dropLast := by
  obtain ⟨ys, z, e, ht, hd⟩ := h.split
  have hst : s.fetched.st = s.st.dropLast ++ [{ s.top with pc := s.top.pc + 1 }] := rfl
  exact ⟨by rw [hst, hd, e]; simp, by rw [hst, List.dropLast_concat]⟩
theorem vld_step (hF : pgE F = 0) (him : ImmF F) (h : Vld F s) : (s.stepM F).ended = true ∨ Vld F (s.stepM F) := by
  obtain ⟨f, hf, hp, hx⟩ := h.next_at
  obtain ⟨hc, _, _, hins, hcl⟩ := fnE_zero.1 (fn_of hF hf)
  have hxm := List.mem_of_getElem? hx
  have hxe := hins _ hxm
  have hxi := him f (List.mem_of_getElem? hf) _ hxm
  obtain ⟨ho, e1, e2, e3, e4, _⟩ := insE_zero.1 hxe
  obtain ⟨hfl, hfd⟩ := fetched_st h
  unfold Mch.stepM Mch.exec
  generalize hxx : s.next F = x at *
  obtain ⟨op, xa, xb, xc, imm⟩ := x
  dsimp only at *
  by_cases h1 : 15 ≤ op ∧ op ≤ 19
  · rw [if_pos h1]
    have hnt : termB op = false := by
      unfold termB
      simp only [Bool.or_eq_false_iff, beq_eq_false_iff_ne]
      omega
    exact .inr ((h.fetched hf (not_last hcl hx hnt)).accessM _)
  · rw [if_neg h1]
    by_cases h2 : 20 ≤ op ∧ op ≤ 24
    · rw [if_pos h2]
      unfold Mch.transferM
      dsimp only
      rcases (show op = 20 ∨ op = 21 ∨ op = 22 ∨ op = 23 ∨ op = 24 by omega) with rfl | rfl | rfl | rfl | rfl
      · rw [if_pos rfl, fetched_jump h]
        exact .inr (h.jumped hf (vopnd_reg e1))
      · rw [if_neg (by decide), if_pos rfl]
        split
        · exact .inr (h.fetched hf (not_last hcl hx rfl))
        · rw [fetched_jump h]
          exact .inr (h.jumped hf (vopnd_reg e2))
      · rw [if_neg (by decide), if_neg (by decide), if_pos rfl]
        have hn := vopnd_fn e1
        obtain ⟨f2, hf2⟩ : ∃ f2, F[xa.toNat]? = some f2 := ⟨_, List.getElem?_eq_getElem hn⟩
        refine .inr ((h.fetched hf (not_last hcl hx rfl)).enter hf2 (closed_some (fnE_zero.1 (fn_of hF hf2)).2.2.2.2) ?_)
        have := h.len
        show s.fetched.st.length + 1 ≤ s.steps + 1 + 1
        omega
      · rw [if_neg (by decide), if_neg (by decide), if_neg (by decide), if_pos rfl]
        unfold Mch.leave
        dsimp only
        split
        · exact .inl rfl
        · rename_i hl
          rw [hfl] at hl
          rw [hfd]
          obtain ⟨ys, z, e, ht, hd⟩ := h.split
          have hyl : s.st.length = ys.length + 1 := by rw [e]; simp
          refine .inr ⟨h.r8, h.rv, h.iv, ?_, fun a ha => ?_, fun a ha => ?_, fun a ha => ?_, ?_, ?_, ?_⟩
          · show 1 ≤ s.st.dropLast.length
            rw [hd]; omega
          · exact h.fn a (List.dropLast_subset _ ha)
          · exact h.cv a (List.dropLast_subset _ ha)
          · refine h.zero a ?_
            have ha2 : ys[0]? = some a := by rw [← hd]; exact ha
            rw [e, List.getElem?_append_left (by omega)]
            exact ha2
          · show s.st.dropLast.length ≤ s.steps + 1 + 1
            have := h.len
            rw [List.length_dropLast]
            omega
          · have := h.dep
            show s.depth ≤ s.steps + 1 + 1
            omega
          · have := h.tl
            show s.trace.length ≤ s.steps + 1
            omega
      · rw [if_neg (by decide), if_neg (by decide), if_neg (by decide), if_neg (by decide)]
        exact .inl rfl
    · rw [if_neg h2]
      have hnt : termB op = false := by
        unfold termB
        simp only [Bool.or_eq_false_iff, beq_eq_false_iff_ne]
        omega
      refine .inr ((h.fetched hf (not_last hcl hx hnt)).computeM _ hxi ?_)
      have := h.tl
      show s.trace.length + 1 ≤ s.steps + 1
      omega
theorem vld_start (hF : pgE F = 0) {inp : List Nat} (hi : ∀ v ∈ inp, v < 18446744073709551616) : Vld F (startM inp) := by
  obtain ⟨_, ⟨f, r, e, hp⟩, hall⟩ := pgE_zero.1 hF
  refine ⟨by simp [startM], fun V hV => ?_, hi, Nat.le_refl _, fun a ha => ?_, fun a ha => ?_, fun a ha => ?_, Nat.le_refl _, Nat.le_refl _, Nat.le_refl _⟩
  · have : V = 0 := by simpa [startM] using hV
    rw [this]; decide
  · obtain rfl : a = ⟨0, 0, noC, noC⟩ := by simpa [startM] using ha
    exact ⟨f, by rw [e]; rfl, closed_some (fnE_zero.1 (hall f (by rw [e]; simp))).2.2.2.2⟩
  · obtain rfl : a = ⟨0, 0, noC, noC⟩ := by simpa [startM] using ha
    exact ⟨(fun i v hv => by cases hv), (fun i v hv => by cases hv)⟩
  · have : (⟨0, 0, noC, noC⟩ : Acn) = a := by simpa [startM] using ha
    rw [← this]
end
end Go.Proofs.YtlkcjjalkdlicaaDoor
end
