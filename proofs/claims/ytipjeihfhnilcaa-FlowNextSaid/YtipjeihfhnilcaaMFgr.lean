import Derived.WalkKit
set_option linter.unusedVariables false
set_option linter.unusedSimpArgs false
section
/-
  Plain mathematics of control flow: ways through a graph of numbers, a search with a stack, a fixpoint, blocks between leaders. Nothing here names the program.
-/
namespace Go.Proofs.Ytipjeihfhnilcaa

/-- There is a way from 0 to a number by steps of S. -/
inductive Way (S : Nat → List Nat) : Nat → Prop
  | start : Way S 0
  | step {k j : Nat} : Way S k → j ∈ S k → Way S j

theorem count_set {R : List Bool} {j : Nat} (h : R[j]? = some false) : (R.set j true).count false + 1 = R.count false := by
  induction R generalizing j with
  | nil => simp at h
  | cons b r ih =>
    cases j with
    | zero => simp at h; subst h; simp
    | succ j =>
      have := ih (j := j) (by simpa using h)
      rw [List.set_cons_succ, List.count_cons, List.count_cons]
      omega
theorem set_get {R : List Bool} {j k : Nat} (hj : j < R.length) : (R.set j true)[k]? = if j = k then some true else R[k]? := by
  rw [List.getElem?_set]
  by_cases h : j = k
  · subst h; simp [hj]
  · simp [h]
theorem set_true {R : List Bool} {j k : Nat} (h : R[k]? = some true) : (R.set j true)[k]? = some true := by
  have hk : k < R.length := (List.getElem?_eq_some_iff.1 h).1
  rw [List.getElem?_set]
  by_cases e : j = k
  · subst e; simp [hk]
  · simp [e, h]
theorem bool_get {R : List Bool} {k : Nat} (hk : k < R.length) : R[k]? = some true ∨ R[k]? = some false := by
  rw [List.getElem?_eq_getElem hk]
  cases R[k] <;> simp

/-- What the search with a stack keeps. -/
structure SchI (S : Nat → List Nat) (n : Nat) (R : List Bool) (st : List Nat) : Prop where
  len : R.length = n
  way : ∀ k : Nat, R[k]? = some true → Way S k
  zero : R[0]? = some true
  mem : ∀ k ∈ st, R[k]? = some true
  done : ∀ k : Nat, R[k]? = some true → k ∉ st → ∀ j ∈ S k, R[j]? = some true
/-- The same, while number k's steps are looked at: the first i of them. -/
structure SchK (S : Nat → List Nat) (n : Nat) (k i : Nat) (R : List Bool) (st : List Nat) : Prop where
  len : R.length = n
  way : ∀ k : Nat, R[k]? = some true → Way S k
  zero : R[0]? = some true
  mem : ∀ k ∈ st, R[k]? = some true
  done : ∀ m : Nat, R[m]? = some true → m ∉ st → m ≠ k → ∀ j ∈ S m, R[j]? = some true
  cur : R[k]? = some true
  seen : ∀ j ∈ (S k).take i, R[j]? = some true
section
variable {S : Nat → List Nat} {n k i : Nat} {R : List Bool} {st : List Nat}
theorem SchI.start (h : 0 < n) : SchI S n ((List.replicate n false).set 0 true) [0] := by
  have hl : 0 < (List.replicate n false).length := by simpa using h
  have hw : ∀ k : Nat, ((List.replicate n false).set 0 true)[k]? = some true → k = 0 := fun k hk => by
    rw [set_get hl] at hk
    by_cases e : 0 = k
    · exact e.symm
    · rw [if_neg e, List.getElem?_replicate] at hk
      split at hk <;> simp at hk
  refine ⟨by simp, fun k hk => ?_, by rw [set_get hl, if_pos rfl], fun k hk => ?_, fun k hk hno => ?_⟩
  · rw [hw k hk]; exact .start
  · simp at hk; subst hk; rw [set_get hl, if_pos rfl]
  · rw [hw k hk] at hno; simp at hno
theorem SchI.pop (h : SchI S n R (st ++ [k])) : SchK S n k 0 R st :=
  ⟨h.len, h.way, h.zero, fun m hm => h.mem m (by simp [hm]), fun m hm hno hne => h.done m hm (by simp [hno, hne]), h.mem k (by simp), fun j hj => by simp at hj⟩
theorem SchK.old {j : Nat} (h : SchK S n k i R st) (hj : (S k)[i]? = some j) (hr : R[j]? = some true) : SchK S n k (i + 1) R st :=
  ⟨h.len, h.way, h.zero, h.mem, h.done, h.cur, fun m hm => by
    rw [List.take_add_one, hj, List.mem_append] at hm
    rcases hm with hm | hm
    · exact h.seen m hm
    · simp at hm; subst hm; exact hr⟩
theorem SchK.new {j : Nat} (h : SchK S n k i R st) (hj : (S k)[i]? = some j) (hr : R[j]? = some false) : SchK S n k (i + 1) (R.set j true) (st ++ [j]) := by
  have hl : j < R.length := (List.getElem?_eq_some_iff.1 hr).1
  refine ⟨by simpa using h.len, fun m hm => ?_, set_true h.zero, fun m hm => ?_, fun m hm hno hne x hx => ?_, set_true h.cur, fun m hm => ?_⟩
  · rw [set_get hl] at hm
    by_cases e : j = m
    · subst e; exact .step (h.way k h.cur) (List.mem_of_getElem? hj)
    · rw [if_neg e] at hm; exact h.way m hm
  · rw [List.mem_append] at hm
    rcases hm with hm | hm
    · exact set_true (h.mem m hm)
    · simp at hm; subst hm; rw [set_get hl, if_pos rfl]
  · have e : j ≠ m := fun e => hno (by simp [e])
    rw [set_get hl, if_neg e] at hm
    exact set_true (h.done m hm (fun hm' => hno (by simp [hm'])) hne x hx)
  · rw [List.take_add_one, hj, List.mem_append] at hm
    rcases hm with hm | hm
    · exact set_true (h.seen m hm)
    · simp at hm; subst hm; rw [set_get hl, if_pos rfl]
theorem SchK.over (h : SchK S n k (S k).length R st) : SchI S n R st :=
  ⟨h.len, h.way, h.zero, h.mem, fun m hm hno j hj => by
    by_cases e : m = k
    · subst e; exact h.seen j (by simpa using hj)
    · exact h.done m hm hno e j hj⟩

/-- Which numbers are reached, as Bools. -/
structure IsRch (S : Nat → List Nat) (n : Nat) (R : List Bool) : Prop where
  len : R.length = n
  iff : ∀ k : Nat, k < n → (R[k]? = some true ↔ Way S k)
theorem way_in {R : List Bool} (h0 : R[0]? = some true) (hs : ∀ k : Nat, R[k]? = some true → ∀ j ∈ S k, R[j]? = some true) {k : Nat} (h : Way S k) : R[k]? = some true := by
  induction h with
  | start => exact h0
  | step _ hj ih => exact hs _ ih _ hj
theorem SchI.end_ (h : SchI S n R []) : IsRch S n R := ⟨h.len, fun k _ => ⟨h.way k, way_in h.zero fun k hk j hj => h.done k hk (by simp) j hj⟩⟩
theorem IsRch.one {R' : List Bool} (h : IsRch S n R) (h' : IsRch S n R') : R = R' := by
  refine List.ext_getElem? fun k => ?_
  by_cases hk : k < n
  · have e1 := h.iff k hk
    have e2 := h'.iff k hk
    rcases bool_get (R := R) (by rw [h.len]; exact hk) with a | a <;> rcases bool_get (R := R') (by rw [h'.len]; exact hk) with b | b
    · rw [a, b]
    · exact absurd (e2.2 (e1.1 a)) (by rw [b]; simp)
    · exact absurd (e1.2 (e2.1 b)) (by rw [a]; simp)
    · rw [a, b]
  · rw [List.getElem?_eq_none (by rw [h.len]; omega), List.getElem?_eq_none (by rw [h'.len]; omega)]

/-- What the fixpoint keeps. -/
structure FpI (S : Nat → List Nat) (n : Nat) (R : List Bool) : Prop where
  len : R.length = n
  way : ∀ k : Nat, R[k]? = some true → Way S k
  zero : R[0]? = some true
/-- If nothing was changed: of the numbers below k, and of k's first i steps, all is closed. -/
def Shut (S : Nat → List Nat) (R : List Bool) (k i : Nat) : Prop := (∀ m : Nat, m < k → R[m]? = some true → ∀ j ∈ S m, R[j]? = some true) ∧ (R[k]? = some true → ∀ j ∈ (S k).take i, R[j]? = some true)
theorem FpI.start (h : 0 < n) : FpI S n ((List.replicate n false).set 0 true) := ⟨(SchI.start (S := S) h).len, (SchI.start h).way, (SchI.start (S := S) h).zero⟩
theorem FpI.new {j : Nat} (h : FpI S n R) (hk : R[k]? = some true) (hj : (S k)[i]? = some j) (hr : R[j]? = some false) : FpI S n (R.set j true) := by
  have hl : j < R.length := (List.getElem?_eq_some_iff.1 hr).1
  refine ⟨by simpa using h.len, fun m hm => ?_, set_true h.zero⟩
  rw [set_get hl] at hm
  by_cases e : j = m
  · subst e; exact .step (h.way k hk) (List.mem_of_getElem? hj)
  · rw [if_neg e] at hm; exact h.way m hm
theorem Shut.start : Shut S R 0 0 := ⟨fun m hm => by omega, fun _ j hj => by simp at hj⟩
theorem Shut.old {j : Nat} (h : Shut S R k i) (hj : (S k)[i]? = some j) (hr : R[j]? = some true) : Shut S R k (i + 1) := ⟨h.1, fun hk m hm => by
  rw [List.take_add_one, hj, List.mem_append] at hm
  rcases hm with hm | hm
  · exact h.2 hk m hm
  · simp at hm; subst hm; exact hr⟩
theorem Shut.full (h : Shut S R k (S k).length) : Shut S R (k + 1) 0 := ⟨fun m hm hr j hj => by
  by_cases e : m = k
  · subst e; exact h.2 hr j (by simpa using hj)
  · exact h.1 m (by omega) hr j hj, fun _ j hj => by simp at hj⟩
theorem Shut.skip (h : Shut S R k i) (hr : R[k]? = some false) : Shut S R (k + 1) 0 := ⟨fun m hm hr' j hj => by
  by_cases e : m = k
  · subst e; rw [hr] at hr'; cases hr'
  · exact h.1 m (by omega) hr' j hj, fun _ j hj => by simp at hj⟩
theorem FpI.end_ (h : FpI S n R) (hs : Shut S R n 0) : IsRch S n R := ⟨h.len, fun k _ => ⟨h.way k, way_in h.zero fun k hk j hj => hs.1 k (by have := (List.getElem?_eq_some_iff.1 hk).1; have := h.len; omega) hk j hj⟩⟩
end

/-- The block of k: from leader f to the next leader t (or the end). -/
structure IsBlk (L : Nat → Bool) (n k f t : Nat) : Prop where
  fk : f ≤ k
  kt : k < t
  tn : t ≤ n
  lf : L f = true
  lt : t = n ∨ L t = true
  no : ∀ j, f < j → j < t → L j = false
theorem IsBlk.one {L : Nat → Bool} {n k f t f' t' : Nat} (h : IsBlk L n k f t) (h' : IsBlk L n k f' t') : f = f' ∧ t = t' := by
  have e1 : f = f' := by
    rcases Nat.lt_trichotomy f f' with c | c | c
    · have := h.no f' c (by have := h'.fk; have := h.kt; omega); rw [h'.lf] at this; cases this
    · exact c
    · have := h'.no f c (by have := h.fk; have := h'.kt; omega); rw [h.lf] at this; cases this
  refine ⟨e1, ?_⟩
  rcases Nat.lt_trichotomy t t' with c | c | c
  · rcases h.lt with e | e
    · have := h'.tn; omega
    · have := h'.no t (by have := h'.fk; have := h.kt; omega) c; rw [e] at this; cases this
  · exact c
  · rcases h'.lt with e | e
    · have := h.tn; omega
    · have := h.no t' (by have := h.fk; have := h'.kt; omega) c; rw [e] at this; cases this
theorem IsBlk.same {L : Nat → Bool} {n k j f t : Nat} (h : IsBlk L n k f t) (h1 : f ≤ j) (h2 : j < t) : IsBlk L n j f t := ⟨h1, h2, h.tn, h.lf, h.lt, h.no⟩

/-- The leaders below m, ascending. -/
def leadsL (L : Nat → Bool) (m : Nat) : List Nat := (List.range m).filter L
theorem leadsL_succ (L : Nat → Bool) (m : Nat) : leadsL L (m + 1) = leadsL L m ++ (if L m = true then [m] else []) := by
  unfold leadsL
  rw [List.range_succ, List.filter_append]
  by_cases h : L m = true
  · simp [h]
  · simp [h]
theorem leadsL_mem {L : Nat → Bool} {m j : Nat} : j ∈ leadsL L m ↔ j < m ∧ L j = true := by simp [leadsL]
theorem leadsL_pw (L : Nat → Bool) (m : Nat) : (leadsL L m).Pairwise (· < ·) := List.pairwise_lt_range.filter _
/-- Leader i begins a block that ends where leader i + 1 begins, or at the end. -/
theorem leads_blk {L : Nat → Bool} {n i f : Nat} (h : (leadsL L n)[i]? = some f) : ∃ t, IsBlk L n f f t ∧ ((leadsL L n)[i + 1]? = some t ∨ ((leadsL L n)[i + 1]? = none ∧ t = n)) := by
  have hp := leadsL_pw L n
  have hm := leadsL_mem.1 (List.mem_of_getElem? h)
  obtain ⟨hi, hfi⟩ := List.getElem?_eq_some_iff.1 h
  have far : ∀ j t, (leadsL L n)[i + 1]? = some t → f < j → j < t → L j = false := fun j t ht h1 h2 => by
    cases hj : L j with
    | false => rfl
    | true =>
      exfalso
      obtain ⟨ht1, ht2⟩ := List.getElem?_eq_some_iff.1 ht
      have htn := (leadsL_mem.1 (List.mem_of_getElem? ht)).1
      obtain ⟨q, hq, hqe⟩ := List.mem_iff_getElem.1 (leadsL_mem.2 ⟨(show j < n by omega), hj⟩)
      rw [List.pairwise_iff_getElem] at hp
      rcases Nat.lt_trichotomy q i with c | c | c
      · have := hp q i hq hi c; omega
      · subst c; omega
      · rcases Nat.lt_or_ge q (i + 1) with c2 | c2
        · omega
        · rcases Nat.eq_or_lt_of_le c2 with c3 | c3
          · subst c3; omega
          · have := hp (i + 1) q ht1 hq c3; omega
  rcases hn : (leadsL L n)[i + 1]? with _ | t
  · refine ⟨n, ⟨Nat.le_refl _, hm.1, Nat.le_refl _, hm.2, .inl rfl, fun j h1 h2 => ?_⟩, .inr ⟨rfl, rfl⟩⟩
    cases hj : L j with
    | false => rfl
    | true =>
      exfalso
      obtain ⟨q, hq, hqe⟩ := List.mem_iff_getElem.1 (leadsL_mem.2 ⟨h2, hj⟩)
      have hlen := List.getElem?_eq_none_iff.1 hn
      rw [List.pairwise_iff_getElem] at hp
      rcases Nat.lt_trichotomy q i with c | c | c
      · have := hp q i hq hi c; omega
      · subst c; omega
      · omega
  · have htm := leadsL_mem.1 (List.mem_of_getElem? hn)
    obtain ⟨ht1, ht2⟩ := List.getElem?_eq_some_iff.1 hn
    have hft : f < t := by
      rw [List.pairwise_iff_getElem] at hp
      have := hp i (i + 1) hi ht1 (by omega)
      omega
    exact ⟨t, ⟨Nat.le_refl _, hft, by omega, hm.2, .inr htm.2, fun j h1 h2 => far j t hn h1 h2⟩, .inl rfl⟩
end Go.Proofs.Ytipjeihfhnilcaa
end
