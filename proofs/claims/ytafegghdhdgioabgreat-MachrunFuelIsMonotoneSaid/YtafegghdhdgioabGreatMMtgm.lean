import Derived.Test.YtafegghdhdgioabGreatMNce
set_option linter.unusedVariables false
set_option linter.unusedSimpArgs false
section
/-
  A target's error in the order in which it is looked for. No function of the program is named here.
-/
namespace Go.Proofs.YtafegghdhdgioabGreat
open Go.RowKit

theorem tgE_many {Al : Int} {F : Tg} (h : 80 < F.length) : tgE Al F = 3 := by unfold tgE; rw [if_pos h]
theorem tgE_align {Al : Int} {F : Tg} {f : Fm} (h : F.length ≤ 80) (hf : F[0]? = some f) (ha : powB Al = false ∨ Al < 16) : tgE Al F = 5 := by
  unfold tgE
  rw [if_neg (by omega)]
  cases F with
  | nil => simp at hf
  | cons g r => simp only; rw [if_pos ha]
theorem tgE_entry {Al : Int} {F : Tg} {f : Fm} (h : F.length ≤ 80) (hf : F[0]? = some f) (ha : powB Al = true ∧ 16 ≤ Al) (hp : f.params ≠ 0) : tgE Al F = 7 := by
  unfold tgE
  rw [if_neg (by omega)]
  cases F with
  | nil => simp at hf
  | cons g r =>
    simp at hf; subst hf
    simp only
    rw [if_neg (by rintro (h | h); exact absurd ha.1 (by simp [h]); omega), if_pos hp]
theorem tgE_rest {Al : Int} {F : Tg} {f : Fm} (h : F.length ≤ 80) (hf : F[0]? = some f) (ha : powB Al = true ∧ 16 ≤ Al) (hp : f.params = 0) : tgE Al F = if firstE (F.map (fmE Al F.length)) ≠ 0 then firstE (F.map (fmE Al F.length)) else if F.all (roomB F) then 0 else 7 := by
  unfold tgE
  rw [if_neg (by omega)]
  cases F with
  | nil => simp at hf
  | cons g r =>
    simp at hf; subst hf
    simp only
    rw [if_neg (by rintro (h | h); exact absurd ha.1 (by simp [h]); omega), if_neg (by simpa using hp)]
/-- What a frame without an error is. -/
theorem fmE_zero {Al : Int} {N : Nat} {f : Fm} (h : fmE Al N f = 0) : shB Al f = true ∧ f.code.length ≤ 1024 ∧ (∀ x ∈ f.code, minsE N f x = 0) ∧ closedB f.code = true := by
  unfold fmE at h
  have hf := @firstE_zero (f.code.map (minsE N f))
  simp only [List.mem_map, forall_exists_index, and_imp, forall_apply_eq_imp_iff₂] at hf
  by_cases h1 : shB Al f = true
  · rw [if_neg (by simp [h1])] at h
    by_cases h2 : 1024 < f.code.length
    · rw [if_pos h2] at h; omega
    · rw [if_neg h2] at h
      by_cases h3 : firstE (f.code.map (minsE N f)) = 0
      · rw [if_neg (by simpa using h3)] at h
        by_cases h4 : closedB f.code = true
        · exact ⟨h1, by omega, hf.1 h3, h4⟩
        · rw [if_pos (by simpa using h4)] at h; omega
      · rw [if_pos (by simpa using h3)] at h; exact absurd h h3
  · rw [if_pos (by simpa using h1)] at h; omega
/-- The errors of three operands, and of Imm. -/
theorem mopE_cases (N C k n : Int) : mopE N C k n = 0 ∨ mopE N C k n = 2 ∨ mopE N C k n = 4 ∨ mopE N C k n = 5 ∨ mopE N C k n = 6 := by unfold mopE; (repeat' split) <;> simp
theorem mrank_order {e1 e2 e3 imm : Int} {m cov : Bool} (c1 : e1 = 0 ∨ e1 = 2 ∨ e1 = 4 ∨ e1 = 5 ∨ e1 = 6) (c2 : e2 = 0 ∨ e2 = 2 ∨ e2 = 4 ∨ e2 = 5 ∨ e2 = 6) (c3 : e3 = 0 ∨ e3 = 2 ∨ e3 = 4 ∨ e3 = 5 ∨ e3 = 6) :
    mrank (foundE e1 e2 e3 m imm) cov = if e1 = 2 ∨ e2 = 2 ∨ e3 = 2 ∨ (m = false ∧ imm ≠ 0) then 2 else if e1 = 4 ∨ e2 = 4 ∨ e3 = 4 then 4 else if e1 = 5 ∨ e2 = 5 ∨ e3 = 5 then 5 else if cov = false then 4 else if e1 = 6 ∨ e2 = 6 ∨ e3 = 6 then 6 else 0 := by
  unfold foundE
  by_cases h : m = false ∧ imm ≠ 0
  · rw [if_pos h]
    simp [mrank, h]
  · rw [if_neg h]
    cases cov <;> rcases c1 with rfl | rfl | rfl | rfl | rfl <;> rcases c2 with rfl | rfl | rfl | rfl | rfl <;> rcases c3 with rfl | rfl | rfl | rfl | rfl <;> simp [mrank, h]
/-- A Call without an error names a frame. -/
theorem mins_call {N : Nat} {f : Fm} {x : Ins} (h : minsE N f x = 0) (h22 : x.op = 22) : 0 ≤ x.a ∧ x.a < N := by
  unfold minsE at h
  have he : exB x.op = true := by rw [h22]; rfl
  rw [if_neg (by simp [he])] at h
  unfold mfound at h
  rw [mrank_order (mopE_cases _ _ _ _) (mopE_cases _ _ _ _) (mopE_cases _ _ _ _)] at h
  by_cases hw : withB x.a N = true
  · exact withB_true.1 hw
  · exfalso
    have e1 : mopE N f.code.length (mshpOf x.op).1 x.a = 4 := by
      rw [h22]
      show mopE N f.code.length 4 x.a = 4
      unfold mopE
      simp [hw]
    split at h
    · omega
    · rw [if_pos (.inl e1)] at h; omega
end Go.Proofs.YtafegghdhdgioabGreat
end

section
/-
  What every state of a run of a right target keeps (chapter 12): its accesses lie in its frame and its parameters, so that no run is wild. Nothing here names the program.
-/
namespace Go.Proofs.YtafegghdhdgioabGreat
open Go.RowKit

/-- What an instruction without an error is. -/
theorem mins_zero {N : Nat} {f : Fm} {x : Ins} (h : minsE N f x = 0) :
    exB x.op = true ∧ mopE N f.code.length (mshpOf x.op).1 x.a = 0 ∧ mopE N f.code.length (mshpOf x.op).2.1 x.b = 0 ∧ mopE N f.code.length (mshpOf x.op).2.2.1 x.c = 0 ∧ ((mshpOf x.op).2.2.2 = true ∨ x.imm = 0) ∧ covB f.params f.size x = true := by
  unfold minsE at h
  by_cases he : exB x.op = true
  · rw [if_neg (by simp [he])] at h
    unfold mfound at h
    have c1 := mopE_cases N f.code.length (mshpOf x.op).1 x.a
    have c2 := mopE_cases N f.code.length (mshpOf x.op).2.1 x.b
    have c3 := mopE_cases N f.code.length (mshpOf x.op).2.2.1 x.c
    rw [mrank_order c1 c2 c3] at h
    refine ⟨he, ?_⟩
    generalize mopE N f.code.length (mshpOf x.op).1 x.a = e1 at *
    generalize mopE N f.code.length (mshpOf x.op).2.1 x.b = e2 at *
    generalize mopE N f.code.length (mshpOf x.op).2.2.1 x.c = e3 at *
    generalize (mshpOf x.op).2.2.2 = m at *
    generalize covB f.params f.size x = cv at *
    by_cases h2 : e1 = 2 ∨ e2 = 2 ∨ e3 = 2 ∨ (m = false ∧ x.imm ≠ 0)
    · rw [if_pos h2] at h; exact absurd h (by decide)
    · rw [if_neg h2] at h
      by_cases h4 : e1 = 4 ∨ e2 = 4 ∨ e3 = 4
      · rw [if_pos h4] at h; exact absurd h (by decide)
      · rw [if_neg h4] at h
        by_cases h5 : e1 = 5 ∨ e2 = 5 ∨ e3 = 5
        · rw [if_pos h5] at h; exact absurd h (by decide)
        · rw [if_neg h5] at h
          by_cases hc : cv = false
          · rw [if_pos hc] at h; exact absurd h (by decide)
          · rw [if_neg hc] at h
            by_cases h6 : e1 = 6 ∨ e2 = 6 ∨ e3 = 6
            · rw [if_pos h6] at h; exact absurd h (by decide)
            · refine ⟨by omega, by omega, by omega, ?_, by simpa using hc⟩
              cases m
              · right
                exact Decidable.not_not.1 fun hh => h2 (.inr (.inr (.inr ⟨rfl, hh⟩)))
              · exact .inl rfl
  · rw [if_pos (by simpa using he)] at h; exact absurd h (by decide)
theorem mop_reg {N C n : Int} (h : mopE N C 1 n = 0) : ∃ i : Nat, n = (i : Int) ∧ i < 8 := by
  unfold mopE at h
  rw [if_neg (by decide), if_pos rfl] at h
  by_cases hw : withB n 8 = true
  · have := withB_true.1 hw; exact ⟨n.toNat, by omega, by omega⟩
  · rw [if_neg hw] at h; exact absurd h (by decide)
theorem mop_none {N C n : Int} (h : mopE N C 0 n = 0) : n = 0 := by
  unfold mopE at h
  rw [if_pos rfl] at h
  by_cases hw : n = 0
  · exact hw
  · rw [if_neg hw] at h; exact absurd h (by decide)
theorem mop_size {N C n : Int} (h : mopE N C 3 n = 0) : szB n = true := by
  unfold mopE at h
  rw [if_neg (by decide), if_neg (by decide), if_neg (by decide), if_pos rfl] at h
  by_cases hw : szB n = true
  · exact hw
  · rw [if_neg hw] at h; exact absurd h (by decide)
theorem mop_frame {N C n : Int} (h : mopE N C 4 n = 0) : 0 ≤ n ∧ n < N := by
  unfold mopE at h
  rw [if_neg (by decide), if_neg (by decide), if_pos rfl] at h
  by_cases hw : withB n N = true
  · exact withB_true.1 hw
  · rw [if_neg hw] at h; exact absurd h (by decide)
theorem mop_target {N C n : Int} (h : mopE N C 5 n = 0) : 0 ≤ n ∧ n < C := by
  unfold mopE at h
  rw [if_neg (by decide), if_neg (by decide), if_neg (by decide), if_neg (by decide), if_pos rfl] at h
  by_cases hw : withB n C = true
  · exact withB_true.1 hw
  · rw [if_neg hw] at h; exact absurd h (by decide)
/-- What a right target is. -/
structure RightT (Al : Int) (F : Tg) : Prop where
  n80 : F.length ≤ 80
  al : powB Al = true ∧ 16 ≤ Al
  z : ∃ f, F[0]? = some f ∧ f.params = 0
  f : ∀ f ∈ F, shB Al f = true ∧ f.code.length ≤ 1024 ∧ (∀ x ∈ f.code, minsE F.length f x = 0) ∧ closedB f.code = true
  room : ∀ f ∈ F, ∀ x ∈ f.code, callB F f x = true
theorem rightT_of {Al : Int} {F : Tg} (h : tgE Al F = 0) : RightT Al F := by
  have h80 : F.length ≤ 80 := by
    rcases Nat.lt_or_ge 80 F.length with h1 | h1
    · rw [tgE_many h1] at h; exact absurd h (by decide)
    · exact h1
  cases hF : F with
  | nil => subst hF; exact absurd (show (4 : Int) = 0 from h) (by decide)
  | cons f r =>
    rw [← hF]
    have hf : F[0]? = some f := by rw [hF]; rfl
    by_cases ha : powB Al = true ∧ 16 ≤ Al
    · by_cases hp : f.params = 0
      · rw [tgE_rest h80 hf ha hp] at h
        by_cases h4 : firstE (F.map (fmE Al F.length)) = 0
        · rw [if_neg (by simpa using h4)] at h
          by_cases h5 : F.all (roomB F) = true
          · refine ⟨h80, ha, ⟨f, hf, hp⟩, fun g hg => fmE_zero (firstE_zero.1 h4 _ (List.mem_map.2 ⟨g, hg, rfl⟩)), fun g hg x hx => ?_⟩
            have := List.all_eq_true.1 h5 g hg
            unfold roomB at this
            exact List.all_eq_true.1 this x hx
          · rw [if_neg h5] at h; exact absurd h (by decide)
        · rw [if_pos h4] at h; exact absurd h h4
      · rw [tgE_entry h80 hf ha hp] at h; exact absurd h (by decide)
    · rw [tgE_align h80 hf (by
        by_cases h1 : powB Al = true
        · exact .inr (Int.not_le.1 fun h2 => ha ⟨h1, h2⟩)
        · exact .inl (by simpa using h1))] at h
      exact absurd h (by decide)
theorem fmAt_of {F : Tg} {n : Nat} {f : Fm} (h : F[n]? = some f) : fmAt F n = f := by unfold fmAt; rw [List.getD_eq_getElem?_getD, h]; rfl
theorem shB_iff {Al : Int} {f : Fm} (h : shB Al f = true) : powB Al = true ∧ (0 ≤ f.params ∧ f.params < 9) ∧ (0 ≤ f.size ∧ f.size < 2147483520) ∧ f.size % Al = 0 := by
  unfold shB at h
  simp only [Bool.and_eq_true, decide_eq_true_eq] at h
  exact ⟨h.1, withB_true.1 h.2.1, withB_true.1 h.2.2.1, h.2.2.2⟩
/-- The activations of a run. -/
structure StOk (F : Tg) (st : List (Nat × Nat)) : Prop where
  fn : ∀ a ∈ st, ∃ f, F[a.1]? = some f ∧ a.2 < f.code.length
  zero : ∀ a, st[0]? = some a → a.1 = 0
  chain : ∀ (k : Nat) (a b : Nat × Nat), st[k]? = some a → st[k + 1]? = some b → 16 * (fmAt F b.1).params ≤ (fmAt F a.1).size
def sumZ (F : Tg) (st : List (Nat × Nat)) : Nat := (st.map fun a => fsz F a.1).sum
theorem sumZ_app (F : Tg) (l m : List (Nat × Nat)) : sumZ F (l ++ m) = sumZ F l + sumZ F m := by simp [sumZ]
theorem sumZ_one (F : Tg) (a : Nat × Nat) : sumZ F [a] = fsz F a.1 := by simp [sumZ]
section
variable {F : Tg} {ys : List (Nat × Nat)} {z : Nat × Nat}
theorem StOk.pop (h : StOk F (ys ++ [z])) : StOk F ys := by
  refine ⟨fun a ha => h.fn a (List.mem_append_left _ ha), fun a ha => h.zero a ?_, fun k a b ha hb => h.chain k a b ?_ ?_⟩
  · rw [List.getElem?_append_left (List.getElem?_eq_some_iff.1 ha).1]; exact ha
  · rw [List.getElem?_append_left (List.getElem?_eq_some_iff.1 ha).1]; exact ha
  · rw [List.getElem?_append_left (List.getElem?_eq_some_iff.1 hb).1]; exact hb
theorem get_last (ys : List (Nat × Nat)) (z : Nat × Nat) (k : Nat) (a : Nat × Nat) (h : (ys ++ [z])[k]? = some a) : (k < ys.length ∧ ys[k]? = some a) ∨ (k = ys.length ∧ a = z) := by
  rcases Nat.lt_or_ge k ys.length with h1 | h1
  · rw [List.getElem?_append_left h1] at h; exact .inl ⟨h1, h⟩
  · rw [List.getElem?_append_right h1] at h
    have hk : k - ys.length = 0 := by
      rcases Nat.eq_zero_or_pos (k - ys.length) with h2 | h2
      · exact h2
      · rw [List.getElem?_eq_none (by simp only [List.length_cons, List.length_nil]; omega)] at h; cases h
    rw [hk] at h
    exact .inr ⟨by omega, by simpa using h.symm⟩
theorem StOk.turn (h : StOk F (ys ++ [z])) {pc : Nat} {f : Fm} (hf : F[z.1]? = some f) (hp : pc < f.code.length) : StOk F (ys ++ [(z.1, pc)]) := by
  refine ⟨fun a ha => ?_, fun a ha => ?_, fun k a b ha hb => ?_⟩
  · rcases List.mem_append.1 ha with ha | ha
    · exact h.fn a (List.mem_append_left _ ha)
    · obtain rfl : a = (z.1, pc) := by simpa using ha
      exact ⟨f, hf, hp⟩
  · rcases get_last _ _ _ _ ha with ⟨h1, h2⟩ | ⟨h1, rfl⟩
    · exact h.zero a (by rw [List.getElem?_append_left h1]; exact h2)
    · exact h.zero z (by rw [h1]; simp)
  · rcases get_last _ _ _ _ hb with ⟨h1, h2⟩ | ⟨h1, rfl⟩
    · rcases get_last _ _ _ _ ha with ⟨h3, h4⟩ | ⟨h3, rfl⟩
      · exact h.chain k a b (by rw [List.getElem?_append_left h3]; exact h4) (by rw [List.getElem?_append_left h1]; exact h2)
      · omega
    · rcases get_last _ _ _ _ ha with ⟨h3, h4⟩ | ⟨h3, rfl⟩
      · exact h.chain k a z (by rw [List.getElem?_append_left h3]; exact h4) (by rw [h1]; simp)
      · omega
theorem StOk.push (h : StOk F (ys ++ [z])) {n : Nat} {f : Fm} (hf : F[n]? = some f) (hc : 1 ≤ f.code.length) (hr : 16 * f.params ≤ (fmAt F z.1).size) : StOk F (ys ++ [z] ++ [(n, 0)]) := by
  refine ⟨fun a ha => ?_, fun a ha => ?_, fun k a b ha hb => ?_⟩
  · rcases List.mem_append.1 ha with ha | ha
    · exact h.fn a ha
    · obtain rfl : a = (n, 0) := by simpa using ha
      exact ⟨f, hf, hc⟩
  · rcases get_last _ _ _ _ ha with ⟨_, h2⟩ | ⟨h1, rfl⟩
    · exact h.zero a h2
    · exact absurd h1 (by simp)
  · rcases get_last _ _ _ _ hb with ⟨h1, h2⟩ | ⟨h1, rfl⟩
    · rcases get_last _ _ _ _ ha with ⟨_, h4⟩ | ⟨h3, rfl⟩
      · exact h.chain k a b h4 h2
      · omega
    · rcases get_last _ _ _ _ ha with ⟨h3, h4⟩ | ⟨h3, rfl⟩
      · rcases get_last _ _ _ _ h4 with ⟨h5, h6⟩ | ⟨h5, rfl⟩
        · simp at h1; omega
        · rw [show fmAt F (n, 0).1 = f from fmAt_of hf]; exact hr
      · omega
theorem StOk.start {f : Fm} (hf : F[0]? = some f) (hc : 1 ≤ f.code.length) : StOk F [(0, 0)] :=
  ⟨fun a ha => by obtain rfl : a = (0, 0) := by simpa using ha
                  exact ⟨f, hf, hc⟩, fun a ha => by have : (0, 0) = a := by simpa using ha
                                                    rw [← this], fun k a b _ hb => by simp at hb⟩
end
theorem sumZ_dvd {F : Tg} {A : Nat} (hA : ∀ f ∈ F, A ∣ f.size.toNat) : ∀ st, A ∣ sumZ F st
  | [] => by simp [sumZ]
  | a :: r => by
    rw [show a :: r = [a] ++ r from rfl, sumZ_app, sumZ_one]
    refine Nat.dvd_add ?_ (sumZ_dvd hA r)
    unfold fsz fmAt
    rw [List.getD_eq_getElem?_getD]
    cases e : F[a.1]? with
    | none => simp
    | some f => exact hA f (List.mem_of_getElem? e)
/-- How deep a run went. -/
structure DeepOk (F : Tg) (T0 : Nat) (s : Tm) : Prop where
  dl : s.deep ≤ T0
  dm : ∀ A, (∀ f ∈ F, A ∣ f.size.toNat) → A ∣ s.deep
/-- A state from which a run of F goes on. -/
structure VT (F : Tg) (T0 : Nat) (s : Tm) : Prop where
  sm : SmallC s.c
  tl : s.c.trace.length ≤ s.c.steps
  ok : s.mem.Ok
  st : StOk F s.st
  ne : 1 ≤ s.st.length
  stl : s.st.length ≤ s.c.steps + 1
  sum : s.mem.sp + sumZ F s.st = T0
  len : T0 ≤ s.mem.bs.length
  dp : DeepOk F T0 s
/-- A state of a run: it has ended, not wildly, or it goes on. -/
def JT (F : Tg) (T0 : Nat) (s : Tm) : Prop := (s.c.ended = true ∧ s.c.kind ≠ 6 ∧ DeepOk F T0 s) ∨ (s.c.ended = false ∧ VT F T0 s)
section
variable {F : Tg} {T0 : Nat} {s : Tm} {Al : Int}
theorem VT.split (h : VT F T0 s) : ∃ ys z, s.st = ys ++ [z] ∧ s.top = z ∧ s.st.dropLast = ys := by
  have hn : s.st ≠ [] := by intro e; have := h.ne; rw [e] at this; simp at this
  obtain ⟨ys, z, e⟩ : ∃ ys z, s.st = ys ++ [z] := ⟨s.st.dropLast, s.st.getLast hn, (List.dropLast_concat_getLast hn).symm⟩
  refine ⟨ys, z, e, ?_, by rw [e, List.dropLast_concat]⟩
  unfold Tm.top
  rw [e, List.getLastD_concat]
theorem VT.next_at (h : VT F T0 s) : ∃ f, F[s.top.1]? = some f ∧ s.top.2 < f.code.length ∧ f.code[s.top.2]? = some (s.cur F) := by
  obtain ⟨ys, z, e, ht, _⟩ := h.split
  obtain ⟨f, h1, h2⟩ := h.st.fn z (by rw [e]; simp)
  rw [ht]
  refine ⟨f, h1, h2, ?_⟩
  unfold Tm.cur tinsAt
  rw [ht, fmAt_of h1, List.getD_eq_getElem?_getD, List.getElem?_eq_getElem h2]
  rfl
/-- The bytes of the frame and of its parameters lie on the stack. -/
theorem VT.room (hR : RightT Al F) (h : VT F T0 s) {f : Fm} (hf : F[s.top.1]? = some f) : f.size + 16 * f.params ≤ (T0 : Int) - s.mem.sp := by
  obtain ⟨ys, z, e, ht, _⟩ := h.split
  rw [ht] at hf
  have hsum := h.sum
  rw [e, sumZ_app, sumZ_one] at hsum
  have hz : fsz F z.1 = f.size.toNat := by unfold fsz; rw [fmAt_of hf]
  have hs := (shB_iff (hR.f f (List.mem_of_getElem? hf)).1).2.2.1
  rcases List.eq_nil_or_concat ys with h0 | ⟨ws, y, h0⟩
  · subst h0
    have hz0 := h.st.zero z (by rw [e]; rfl)
    obtain ⟨f0, hf0, hp0⟩ := hR.z
    rw [hz0, hf0] at hf
    injection hf with hf
    subst hf
    rw [hp0]
    omega
  · rw [List.concat_eq_append] at h0
    subst h0
    have hc := h.st.chain ws.length y z (by rw [e]; simp) (by rw [e]; simp)
    rw [fmAt_of hf] at hc
    rw [sumZ_app, sumZ_one] at hsum
    have hy : (fmAt F y.1).size ≤ (fsz F y.1 : Int) := by unfold fsz; omega
    omega
theorem exB_ops {op : Int} (h : exB op = true) : 0 ≤ op ∧ op < 25 ∧ op ≠ 18 ∧ op ≠ 19 := by
  unfold exB at h
  simp only [Bool.and_eq_true, Bool.not_eq_true', decide_eq_false_iff_not] at h
  have := withB_true.1 h.1
  omega
theorem mshp_mid {op : Int} (h : 2 ≤ op ∧ op ≤ 11) : mshpOf op = (1, 1, 1, false) := by
  rcases (show op = 2 ∨ op = 3 ∨ op = 4 ∨ op = 5 ∨ op = 6 ∨ op = 7 ∨ op = 8 ∨ op = 9 ∨ op = 10 ∨ op = 11 by omega) with rfl | rfl | rfl | rfl | rfl | rfl | rfl | rfl | rfl | rfl <;> rfl
/-- The index behind an instruction that does not end its activation is one of the code. -/
theorem next_in {N : Nat} {f : Fm} {x : Ins} {c : Co} {pc : Nat} (hx : f.code[pc]? = some x) (hm : minsE N f x = 0) (hcl : closedB f.code = true) (h23 : x.op ≠ 23) (h24 : x.op ≠ 24) : 0 ≤ c.next x (pc : Int) ∧ (c.next x (pc : Int)).toNat < f.code.length := by
  obtain ⟨_, e1, e2, _⟩ := mins_zero hm
  unfold Co.next
  by_cases h20 : x.op = 20
  · rw [if_pos h20]
    rw [h20] at e1
    have := mop_target (show mopE N f.code.length 5 x.a = 0 from e1)
    omega
  · rw [if_neg h20]
    have hn := not_last hcl hx (show termB x.op = false by unfold termB; simp only [Bool.or_eq_false_iff, beq_eq_false_iff_ne]; omega)
    by_cases h21 : x.op = 21 ∧ c.reg x.a % 18446744073709551616 ≠ 0
    · rw [if_pos h21]
      rw [h21.1] at e2
      have := mop_target (show mopE N f.code.length 5 x.b = 0 from e2)
      omega
    · rw [if_neg h21]
      omega
/-- Where an access lies. -/
theorem cov_read {f : Fm} {x : Ins} (h : covB f.params f.size x = true) (hr : rdB x.op = true) : 0 ≤ x.b ∧ 0 ≤ x.c ∧ x.b + x.c ≤ f.size + 16 * f.params := by
  unfold covB rdI at h
  rw [hr, Bool.and_eq_true] at h
  have h1 := h.1
  unfold insB at h1
  rw [Bool.and_eq_true, rightB_iff, decide_eq_true_eq] at h1
  simp at h1
  omega
theorem cov_write {f : Fm} {x : Ins} (h : covB f.params f.size x = true) (hr : wrB x.op = true) : 0 ≤ x.a ∧ 0 ≤ x.c ∧ x.a + x.c ≤ f.size := by
  unfold covB wrI at h
  rw [hr, Bool.and_eq_true] at h
  have h1 := h.2
  unfold insB at h1
  rw [Bool.and_eq_true, rightB_iff, decide_eq_true_eq] at h1
  simp at h1
  omega
theorem sz_pos {n : Int} (h : szB n = true) : 1 ≤ n ∧ n ≤ 16 := by
  unfold szB at h
  rw [decide_eq_true_eq] at h
  omega
/-- The three accesses of a right target lie on the stack, in its frame and its parameters. -/
structure AccOk (T0 : Nat) (s : Tm) (x : Ins) : Prop where
  op : x.op = 15 ∨ x.op = 16 ∨ x.op = 17
  sz : szB x.c = true
  rd : x.op ≠ 16 → 0 ≤ x.b ∧ s.mem.sp + x.b.toNat + x.c.toNat ≤ T0
  wr : x.op ≠ 15 → 0 ≤ x.a ∧ s.mem.sp + x.a.toNat + x.c.toNat ≤ T0
theorem fit_of {S : Sk} {o n : Int} (hn : szB n = true) (ho : 0 ≤ o) (h : S.sp + o.toNat + n.toNat ≤ S.bs.length) : fitB S o n = true := fitB_iff.2 ⟨hn, ho, by have := sz_pos hn; omega⟩
theorem VT.acc (hR : RightT Al F) (h : VT F T0 s) {f : Fm} (hf : F[s.top.1]? = some f) {x : Ins} (hx : x ∈ f.code) (hop : 15 ≤ x.op ∧ x.op ≤ 17) : AccOk T0 s x := by
  have hfm := hR.f f (List.mem_of_getElem? hf)
  obtain ⟨_, e1, e2, e3, _, hcv⟩ := mins_zero (hfm.2.2.1 x hx)
  have hroom := h.room hR hf
  have hsum := h.sum
  have hp := (shB_iff hfm.1).2.1
  have hsz : szB x.c = true := by
    rcases (show x.op = 15 ∨ x.op = 16 ∨ x.op = 17 by omega) with h1 | h1 | h1 <;> rw [h1] at e3 <;> exact mop_size e3
  have hc := sz_pos hsz
  refine ⟨by omega, hsz, fun h16 => ?_, fun h15 => ?_⟩
  · have hc := cov_read hcv (show rdB x.op = true by unfold rdB; simp; omega)
    exact ⟨hc.1, by omega⟩
  · have hc := cov_write hcv (show wrB x.op = true by unfold wrB; simp; omega)
    exact ⟨hc.1, by omega⟩
theorem VT.fetched (hR : RightT Al F) (h : VT F T0 s) {f : Fm} (hf : F[s.top.1]? = some f) (hx : f.code[s.top.2]? = some (s.cur F)) (h23 : (s.cur F).op ≠ 23) (h24 : (s.cur F).op ≠ 24) : VT F T0 (s.fetched (s.cur F)) ∧ (s.fetched (s.cur F)).top.1 = s.top.1 ∧ (s.fetched (s.cur F)).c.trace.length + 1 ≤ (s.fetched (s.cur F)).c.steps ∧ (s.fetched (s.cur F)).st.length ≤ (s.fetched (s.cur F)).c.steps := by
  obtain ⟨ys, z, e, ht, hd⟩ := h.split
  have hfm := hR.f f (List.mem_of_getElem? hf)
  have hn := next_in (c := s.c.more) hx (hfm.2.2.1 _ (List.mem_of_getElem? hx)) hfm.2.2.2 h23 h24
  have hst : (s.fetched (s.cur F)).st = ys ++ [(z.1, (s.c.more.next (s.cur F) (s.top.2 : Int)).toNat)] := by show s.st.dropLast ++ [(s.top.1, _)] = _; rw [hd, ht]
  have hl : (s.fetched (s.cur F)).st.length = s.st.length := by rw [hst, e]; simp
  have h1 := h.stl
  have h2 := h.tl
  rw [ht] at hf
  refine ⟨⟨⟨h.sm.r8, h.sm.rv, h.sm.iv⟩, ?_, h.ok, ?_, by rw [hl]; exact h.ne, ?_, ?_, h.len, ⟨h.dp.dl, h.dp.dm⟩⟩, ?_, ?_, ?_⟩
  · show s.c.trace.length ≤ s.c.steps + 1; omega
  · rw [hst]; exact StOk.turn (by rw [← e]; exact h.st) hf hn.2
  · rw [hl]; show s.st.length ≤ s.c.steps + 1 + 1; omega
  · rw [hst, sumZ_app, sumZ_one]
    have := h.sum
    rw [e, sumZ_app, sumZ_one] at this
    exact this
  · unfold Tm.top; rw [hst, List.getLastD_concat, e, List.getLastD_concat]
  · show s.c.trace.length + 1 ≤ s.c.steps + 1; omega
  · rw [hl]; exact h1
theorem VT.core (h : VT F T0 s) {c : Co} (hc : SmallC c) (ht : c.trace.length ≤ c.steps) (hs : s.st.length ≤ c.steps + 1) : VT F T0 { s with c := c } := ⟨hc, ht, h.ok, h.st, h.ne, hs, h.sum, h.len, ⟨h.dp.dl, h.dp.dm⟩⟩
theorem VT.mem (h : VT F T0 s) {S : Sk} (ho : S.Ok) (hsp : S.sp = s.mem.sp) (hl : S.bs.length = s.mem.bs.length) : VT F T0 { s with mem := S } := ⟨h.sm, h.tl, ho, h.st, h.ne, h.stl, by show S.sp + _ = _; rw [hsp]; exact h.sum, by show T0 ≤ S.bs.length; rw [hl]; exact h.len, ⟨h.dp.dl, h.dp.dm⟩⟩
theorem VT.access (h : VT F T0 s) (he : s.c.ended = false) {x : Ins} (ha : AccOk T0 s x) : JT F T0 (s.access x) := by
  have hsz := sz_pos ha.sz
  have hlen := h.len
  have hcore : ∀ v, v < two128 → JT F T0 { s with c := s.c.setR x.a v } := fun v hv => by
    obtain ⟨e1, e2, e3⟩ := setR_k s.c x.a v
    exact .inr ⟨e3.trans he, h.core (h.sm.setR _ hv) (by rw [e1, e2]; exact h.tl) (by rw [e1]; exact h.stl)⟩
  unfold Tm.access
  rcases ha.op with h1 | h1 | h1
  · obtain ⟨r1, r2⟩ := ha.rd (by omega)
    have hb := fit_of (S := s.mem) ha.sz r1 (by omega)
    rw [if_pos h1, if_neg (by rw [hb]; decide)]
    split
    · exact .inl ⟨rfl, show ¬ (3 : Int) = 6 by decide, ⟨h.dp.dl, h.dp.dm⟩⟩
    · refine hcore _ (valOf_128 _ (cut_byt h.ok _ _) ?_)
      rw [cut_len (by omega)]
      omega
  · obtain ⟨r1, r2⟩ := ha.wr (by omega)
    have hb := fit_of (S := s.mem) ha.sz r1 (by omega)
    rw [if_neg (by omega), if_pos h1, if_neg (by rw [hb]; decide)]
    exact .inr ⟨he, h.mem (h.ok.store (by omega)) rfl (put_len (by rw [bytesV_length]; omega))⟩
  · obtain ⟨r1, r2⟩ := ha.wr (by omega)
    have hb := fit_of (S := s.mem) ha.sz r1 (by omega)
    obtain ⟨r3, r4⟩ := ha.rd (by omega)
    have hb3 := fit_of (S := s.mem) ha.sz r3 (by omega)
    rw [if_neg (by omega), if_neg (by omega), if_neg (by rw [hb, hb3]; simp)]
    split
    · exact .inl ⟨rfl, show ¬ (3 : Int) = 6 by decide, ⟨h.dp.dl, h.dp.dm⟩⟩
    · have hl : (cutS s.mem (s.mem.sp + x.b.toNat) x.c.toNat).length = x.c.toNat := cut_len (by omega)
      exact .inr ⟨he, h.mem (h.ok.put (by rw [hl]; omega) (cut_byt h.ok _ _)) rfl (put_len (by rw [hl]; omega))⟩
theorem VT.enter (h : VT F T0 s) (he : s.c.ended = false) {n : Nat} {f : Fm} (hf : F[n]? = some f) (hc : 1 ≤ f.code.length) (hr : 16 * f.params ≤ (fmAt F s.top.1).size) (hs : s.st.length + 1 ≤ s.c.steps + 1) : JT F T0 (s.enter F T0 n) := by
  obtain ⟨ys, z, e, ht, hd⟩ := h.split
  unfold Tm.enter
  split
  · exact .inl ⟨rfl, show ¬ (5 : Int) = 6 by decide, ⟨h.dp.dl, h.dp.dm⟩⟩
  · rename_i hsp
    rw [ht] at hr
    have hsum := h.sum
    have hnew : T0 - (s.mem.sp - fsz F n) = sumZ F s.st + fsz F n := by omega
    refine .inr ⟨he, ⟨h.sm, h.tl, h.ok.push (by omega), ?_, ?_, ?_, ?_, h.len, ⟨?_, fun A hA => ?_⟩⟩⟩
    · show StOk F (s.st ++ [(n, 0)])
      rw [e]
      exact StOk.push (by rw [← e]; exact h.st) hf hc hr
    · show 1 ≤ (s.st ++ [(n, 0)]).length
      simp
    · show (s.st ++ [(n, 0)]).length ≤ s.c.steps + 1
      rw [List.length_append]; exact hs
    · show s.mem.sp - fsz F n + sumZ F (s.st ++ [(n, 0)]) = T0
      rw [sumZ_app, sumZ_one]
      show s.mem.sp - fsz F n + (sumZ F s.st + fsz F n) = T0
      omega
    · have := h.dp.dl
      show max s.deep (T0 - (s.mem.sp - fsz F n)) ≤ T0
      omega
    · show A ∣ max s.deep (T0 - (s.mem.sp - fsz F n))
      have h1 := h.dp.dm A hA
      have h2 : A ∣ T0 - (s.mem.sp - fsz F n) := by
        rw [hnew]
        have := sumZ_dvd hA (s.st ++ [(n, 0)])
        rw [sumZ_app, sumZ_one] at this
        exact this
      rcases Nat.le_total s.deep (T0 - (s.mem.sp - fsz F n)) with h3 | h3
      · rw [Nat.max_eq_right h3]; exact h2
      · rw [Nat.max_eq_left h3]; exact h1
theorem VT.leave (h : VT F T0 s) (he : s.c.ended = false) {pc : Nat} {t : Tm} (hst : t.st = s.st.dropLast ++ [(s.top.1, pc)]) (hc : t.c = s.c.more) (hm : t.mem = s.mem) (hd : t.deep = s.deep) : JT F T0 (t.leave F) := by
  obtain ⟨ys, z, e, ht, hdl⟩ := h.split
  rw [hdl, ht] at hst
  have htop : t.top.1 = z.1 := by unfold Tm.top; rw [hst, List.getLastD_concat]
  unfold Tm.leave
  dsimp only
  rw [hst, htop, List.dropLast_concat]
  have hdp : ∀ u : Tm, u.deep = t.deep → DeepOk F T0 u := fun u hu => ⟨by rw [hu, hd]; exact h.dp.dl, fun A hA => by rw [hu, hd]; exact h.dp.dm A hA⟩
  split
  · exact .inl ⟨rfl, show ¬ (0 : Int) = 6 by decide, hdp _ rfl⟩
  · rename_i hl
    have hsum := h.sum
    rw [e, sumZ_app, sumZ_one] at hsum
    have h1 := h.stl
    have h2 := h.tl
    have hlen := h.len
    rw [e] at h1
    simp only [List.length_append, List.length_cons, List.length_nil] at hl h1
    refine .inr ⟨by show t.c.ended = false; rw [hc]; exact he, ⟨by show SmallC t.c; rw [hc]; exact ⟨h.sm.r8, h.sm.rv, h.sm.iv⟩, ?_, by show (popS t.mem _).Ok; rw [hm]; exact h.ok.pop (show s.mem.sp + fsz F z.1 ≤ s.mem.bs.length by omega), StOk.pop (by rw [← e]; exact h.st), ?_, ?_, ?_, by show T0 ≤ t.mem.bs.length; rw [hm]; exact h.len, hdp _ rfl⟩⟩
    · show t.c.trace.length ≤ t.c.steps; rw [hc]; show s.c.trace.length ≤ s.c.steps + 1; omega
    · show 1 ≤ ys.length; omega
    · show ys.length ≤ t.c.steps + 1; rw [hc]; show ys.length ≤ s.c.steps + 1 + 1; omega
    · show t.mem.sp + fsz F z.1 + sumZ F ys = T0; rw [hm]; omega
/-- What the kinds of steps ask. -/
inductive StepIs (F : Tg) (T0 : Nat) (s : Tm) (f : Fm) : Prop
  | acc (h : 15 ≤ (s.cur F).op ∧ (s.cur F).op ≤ 17) (v : VT F T0 (s.fetched (s.cur F))) (a : AccOk T0 (s.fetched (s.cur F)) (s.cur F)) (e : s.step F T0 = (s.fetched (s.cur F)).access (s.cur F))
  | call (h : (s.cur F).op = 22) (v : VT F T0 (s.fetched (s.cur F))) (g : Fm) (hg : F[(s.cur F).a.toNat]? = some g) (ha : 0 ≤ (s.cur F).a) (hc : 1 ≤ g.code.length) (hr : 16 * g.params ≤ (fmAt F (s.fetched (s.cur F)).top.1).size) (hs : (s.fetched (s.cur F)).st.length + 1 ≤ (s.fetched (s.cur F)).c.steps + 1) (e : s.step F T0 = (s.fetched (s.cur F)).enter F T0 (s.cur F).a.toNat)
  | ret (h : (s.cur F).op = 23) (e : s.step F T0 = (s.fetched (s.cur F)).leave F)
  | trap (h : (s.cur F).op = 24) (e : s.step F T0 = { s.fetched (s.cur F) with c := ({ (s.fetched (s.cur F)).c with code := (s.cur F).imm } : Co).stop 1 })
  | plain (h : (s.cur F).op < 15 ∨ (s.cur F).op = 20 ∨ (s.cur F).op = 21) (v : VT F T0 (s.fetched (s.cur F))) (ht : (s.fetched (s.cur F)).c.trace.length + 1 ≤ (s.fetched (s.cur F)).c.steps) (e : s.step F T0 = { s.fetched (s.cur F) with c := (s.fetched (s.cur F)).c.execC (s.cur F) })
theorem VT.sort (hR : RightT Al F) (h : VT F T0 s) {f : Fm} (hf : F[s.top.1]? = some f) (hx : f.code[s.top.2]? = some (s.cur F)) : StepIs F T0 s f := by
  have hxm := List.mem_of_getElem? hx
  have hfm := hR.f f (List.mem_of_getElem? hf)
  obtain ⟨hex, e1, e2, e3, e4, hcv⟩ := mins_zero (hfm.2.2.1 _ hxm)
  have hops := exB_ops hex
  by_cases h23 : (s.cur F).op = 23
  · exact .ret h23 (by unfold Tm.step Tm.exec; rw [if_neg (by omega), if_neg (by omega), if_pos h23])
  · by_cases h24 : (s.cur F).op = 24
    · refine .trap h24 ?_
      unfold Tm.step Tm.exec
      rw [if_neg (by omega), if_neg (by omega), if_neg h23]
      congr 1
      unfold Co.execC
      rw [if_neg (by omega), if_neg (by omega), if_neg (by omega), if_neg (by omega), if_neg (by omega), if_neg (by omega), if_neg (by omega), if_pos h24]
    · obtain ⟨hv, ht1, ht2, ht3⟩ := h.fetched hR hf hx h23 h24
      by_cases hop : 15 ≤ (s.cur F).op ∧ (s.cur F).op ≤ 17
      · exact .acc hop hv (hv.acc hR (by rw [ht1]; exact hf) hxm hop) (by unfold Tm.step Tm.exec; rw [if_pos hop])
      · by_cases h22 : (s.cur F).op = 22
        · rw [h22] at e1
          have hn := mop_frame (show mopE F.length f.code.length 4 (s.cur F).a = 0 from e1)
          obtain ⟨f2, hf2⟩ : ∃ f2, F[(s.cur F).a.toNat]? = some f2 := ⟨_, List.getElem?_eq_getElem (by omega)⟩
          have hcall := hR.room f (List.mem_of_getElem? hf) _ hxm
          unfold callB at hcall
          rw [h22, hf2] at hcall
          simp only [decide_true, Bool.true_and, Bool.not_eq_true', decide_eq_false_iff_not, Option.map_some, Option.getD_some] at hcall
          exact .call h22 hv f2 hf2 hn.1 (closed_some (hR.f f2 (List.mem_of_getElem? hf2)).2.2.2) (by rw [ht1, fmAt_of hf]; omega) (by omega) (by unfold Tm.step Tm.exec; rw [if_neg hop, if_pos h22])
        · exact .plain (by omega) hv ht2 (by unfold Tm.step Tm.exec; rw [if_neg hop, if_neg h22, if_neg h23])
/-- A step of a right target. -/
theorem vt_step (hR : RightT Al F) (him : ImmT F) (h : VT F T0 s) (he : s.c.ended = false) : JT F T0 (s.step F T0) := by
  obtain ⟨f, hf, hp, hx⟩ := h.next_at
  have hxi := him f (List.mem_of_getElem? hf) _ (List.mem_of_getElem? hx)
  have hd0 : DeepOk F T0 (s.fetched (s.cur F)) := ⟨h.dp.dl, h.dp.dm⟩
  rcases h.sort hR hf hx with ⟨_, v, a, e⟩ | ⟨_, v, g, hg, _, hc, hr, hs, e⟩ | ⟨_, e⟩ | ⟨_, e⟩ | ⟨hk, v, ht, e⟩
  · rw [e]; exact v.access he a
  · rw [e]; exact v.enter he hg hc hr hs
  · rw [e]; exact h.leave he (t := s.fetched (s.cur F)) rfl rfl rfl rfl
  · rw [e]; exact .inl ⟨rfl, show ¬ (1 : Int) = 6 by decide, ⟨hd0.dl, hd0.dm⟩⟩
  · rw [e]
    have hm := exec_moved (s.fetched (s.cur F)).c (s.cur F)
    cases hend : ((s.fetched (s.cur F)).c.execC (s.cur F)).ended with
    | true =>
      refine .inl ⟨hend, fun h6 => ?_, ⟨hd0.dl, hd0.dm⟩⟩
      rcases hm.kind hend with h2 | h2
      · rw [show (s.fetched (s.cur F)).c.ended = s.c.ended from rfl, he] at h2; cases h2
      · have h6' : ((s.fetched (s.cur F)).c.execC (s.cur F)).kind = 6 := h6
        omega
    | false =>
      have hstl := v.stl
      exact .inr ⟨hend, v.core (v.sm.execC _ hxi) (by rw [hm.steps]; have := hm.tl; omega) (by rw [hm.steps]; omega)⟩
theorem vt_start (hR : RightT Al F) {inp : List Nat} (hi : ∀ v ∈ inp, v < 18446744073709551616) {size : Nat} (hs : size ≤ 1048576) {A : Nat} : JT F (roomT A size) (startT A F inp size) := by
  obtain ⟨f, hf, hp⟩ := hR.z
  have hrl : roomT A size ≤ size := Nat.sub_le _ _
  unfold startT Tm.enter
  split
  · exact .inl ⟨rfl, show ¬ (5 : Int) = 6 by decide, ⟨Nat.zero_le _, fun A _ => Nat.dvd_zero A⟩⟩
  · rename_i hsp
    have hsp : ¬ roomT A size < fsz F 0 := hsp
    have hnew : roomT A size - (roomT A size - fsz F 0) = fsz F 0 := by omega
    refine .inr ⟨rfl, ⟨⟨by simp [coreZ, preT], fun V hV => ?_, hi⟩, Nat.zero_le _, (newS_ok hs hrl).push (show fsz F 0 ≤ roomT A size by omega), StOk.start hf (closed_some (hR.f f (List.mem_of_getElem? hf)).2.2.2), Nat.le_refl _, Nat.le_refl _, ?_, ?_, ⟨?_, fun B hB => ?_⟩⟩⟩
    · have : V = 0 := by simpa [preT, coreZ] using hV
      rw [this]; decide
    · show roomT A size - fsz F 0 + sumZ F [(0, 0)] = roomT A size
      rw [sumZ_one]
      show roomT A size - fsz F 0 + fsz F 0 = roomT A size
      omega
    · show roomT A size ≤ (List.replicate size (0 : Int)).length
      simpa using hrl
    · show max 0 (roomT A size - (roomT A size - fsz F 0)) ≤ roomT A size
      omega
    · show B ∣ max 0 (roomT A size - (roomT A size - fsz F 0))
      rw [Nat.zero_max, hnew]
      have := sumZ_dvd hB [(0, 0)]
      rwa [sumZ_one] at this
theorem vt_iter (hR : RightT Al F) (him : ImmT F) : ∀ (k : Nat) (s : Tm), JT F T0 s → JT F T0 (iterT F T0 k s)
  | 0, s, h => h
  | k + 1, s, h => by
    rw [iterT]
    rcases h with h | ⟨h1, h2⟩
    · rw [if_pos h.1]; exact .inl h
    · rw [if_neg (by rw [h1]; decide)]
      exact vt_iter hR him k _ (vt_step hR him h2 h1)
/-- How a run of a right target ends: never wild, and as deep as the stack has room. -/
theorem run_kept (hR : RightT Al F) (him : ImmT F) {inp : List Nat} (hi : ∀ v ∈ inp, v < 18446744073709551616) {size : Nat} (hs : size ≤ 1048576) (A n : Nat) : (runT A F inp n size).c.kind ≠ 6 ∧ DeepOk F (roomT A size) (runT A F inp n size) := by
  by_cases h0 : n = 0
  · subst h0; exact ⟨show ¬ (4 : Int) = 6 by decide, ⟨Nat.zero_le _, fun A _ => Nat.dvd_zero A⟩⟩
  · rw [runT_pos h0]
    unfold Tm.fuelled
    rcases vt_iter hR him n _ (vt_start hR hi hs (A := A)) with h | h
    · rw [if_pos h.1]; exact h.2
    · rw [if_neg (by rw [h.1]; decide)]
      exact ⟨show ¬ (4 : Int) = 6 by decide, ⟨h.2.dp.dl, h.2.dp.dm⟩⟩
end
end Go.Proofs.YtafegghdhdgioabGreat
end
