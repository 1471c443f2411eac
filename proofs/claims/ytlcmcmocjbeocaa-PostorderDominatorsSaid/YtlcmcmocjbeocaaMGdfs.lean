import Derived.Test.YtlcmcmocjbeocaaMFgr
import Derived.Test.YtlcmcmocjbeocaaRows
set_option linter.unusedVariables false
set_option linter.unusedSimpArgs false
section
/-
  Plain mathematics of a depth-first search: what it has marked and the list of what it has left, in the order of leaving. Nothing here names the program.
-/
namespace Go.Proofs.Ytlcmcmocjbeocaa

/-- The search over the numbers of a list: from the marks R and the list L of what was left, to R' and L'. -/
inductive Vis (S : Nat → List Nat) : List Bool → List Nat → List Nat → List Bool → List Nat → Prop
  | nil {R : List Bool} {L : List Nat} : Vis S R L [] R L
  | old {R R' : List Bool} {L L' ks : List Nat} {j : Nat} : R[j]? = some true → Vis S R L ks R' L' → Vis S R L (j :: ks) R' L'
  | new {R R1 R' : List Bool} {L L1 L' ks : List Nat} {j : Nat} : R[j]? = some false → Vis S (R.set j true) L (S j) R1 L1 → Vis S R1 (L1 ++ [j]) ks R' L' → Vis S R L (j :: ks) R' L'
section
variable {S : Nat → List Nat} {R R' R1 R2 : List Bool} {L L' L1 L2 ks ks2 : List Nat} {n j k : Nat}
theorem Vis.det (h : Vis S R L ks R1 L1) : ∀ {R2 : List Bool} {L2 : List Nat}, Vis S R L ks R2 L2 → R1 = R2 ∧ L1 = L2 := by
  induction h with
  | nil => intro R2 L2 h'; cases h'; exact ⟨rfl, rfl⟩
  | old hr _ ih =>
    intro R2 L2 h'
    cases h' with
    | old _ h2 => exact ih h2
    | new hr2 _ _ => rw [hr] at hr2; cases hr2
  | new hr _ _ ih1 ih2 =>
    intro R2 L2 h'
    cases h' with
    | old hr2 _ => rw [hr] at hr2; cases hr2
    | new _ h1 h2 =>
      obtain ⟨rfl, rfl⟩ := ih1 h1
      exact ih2 h2
theorem Vis.append (h : Vis S R L ks R1 L1) : Vis S R1 L1 ks2 R2 L2 → Vis S R L (ks ++ ks2) R2 L2 := by
  induction h with
  | nil => exact fun h' => h'
  | old hr _ ih => exact fun h' => .old hr (ih h')
  | new hr h1 _ _ ih2 => exact fun h' => .new hr h1 (ih2 h')
theorem Vis.one_old (hr : R[j]? = some true) : Vis S R L [j] R L := .old hr .nil
theorem Vis.one_new (hr : R[j]? = some false) (h : Vis S (R.set j true) L (S j) R1 L1) : Vis S R L [j] R1 (L1 ++ [j]) := .new hr h .nil
theorem Vis.cnt (h : Vis S R L ks R' L') : R'.length = R.length ∧ L'.length + R'.count false = L.length + R.count false ∧ R'.count false ≤ R.count false ∧ (∀ k : Nat, R[k]? = some true → R'[k]? = some true) ∧ ∀ j ∈ ks, R'[j]? = some true := by
  induction h with
  | nil => exact ⟨rfl, rfl, Nat.le_refl _, fun _ h => h, fun j hj => by simp at hj⟩
  | old hr _ ih =>
    obtain ⟨a, b, c, d, e⟩ := ih
    refine ⟨a, b, c, d, fun j hj => ?_⟩
    rcases List.mem_cons.1 hj with rfl | hj
    · exact d _ hr
    · exact e j hj
  | @new R R1 R' L L1 L' ks j hr _ _ ih1 ih2 =>
    obtain ⟨a1, b1, c1, d1, -⟩ := ih1
    obtain ⟨a2, b2, c2, d2, e2⟩ := ih2
    have hl : j < R.length := (List.getElem?_eq_some_iff.1 hr).1
    have hc := count_set hr
    have hj1 : R1[j]? = some true := d1 j (by rw [set_get hl, if_pos rfl])
    refine ⟨by rw [a2, a1, List.length_set], by rw [List.length_append, List.length_singleton] at b2; omega, by omega, fun k hk => d2 k (d1 k (set_true hk)), fun x hx => ?_⟩
    rcases List.mem_cons.1 hx with rfl | hx
    · exact d2 _ hj1
    · exact e2 x hx
theorem Vis.total (hS : ∀ k j, j ∈ S k → j < n) : ∀ (m : Nat) (R : List Bool) (L ks : List Nat), R.count false ≤ m → R.length = n → (∀ j ∈ ks, j < n) → ∃ R' L', Vis S R L ks R' L' := by
  intro m
  induction m with
  | zero =>
    intro R L ks hm hR hk
    induction ks with
    | nil => exact ⟨R, L, .nil⟩
    | cons j ks ih =>
      have hj : j < R.length := by rw [hR]; exact hk j (by simp)
      obtain ⟨R', L', h⟩ := ih (fun x hx => hk x (by simp [hx]))
      rcases bool_get hj with h1 | h1
      · exact ⟨R', L', .old h1 h⟩
      · have := count_set h1; omega
  | succ m ih =>
    intro R L ks
    induction ks generalizing R L with
    | nil => exact fun _ _ _ => ⟨R, L, .nil⟩
    | cons j ks ih2 =>
      intro hm hR hk
      have hj : j < R.length := by rw [hR]; exact hk j (by simp)
      have hk' : ∀ x ∈ ks, x < n := fun x hx => hk x (by simp [hx])
      rcases bool_get hj with h1 | h1
      · obtain ⟨R', L', h⟩ := ih2 R L hm hR hk'
        exact ⟨R', L', .old h1 h⟩
      · have hc := count_set h1
        obtain ⟨R1, L1, v1⟩ := ih (R.set j true) L (S j) (by omega) (by simpa using hR) (hS j)
        obtain ⟨a, -, c, -, -⟩ := v1.cnt
        obtain ⟨R2, L2, v2⟩ := ih2 R1 (L1 ++ [j]) (by omega) (by rw [a]; simpa using hR) hk'
        exact ⟨R2, L2, .new h1 v1 v2⟩
/-- What a search has left, one after another: M. -/
structure VisM (S : Nat → List Nat) (R : List Bool) (ks : List Nat) (R' : List Bool) (M : List Nat) : Prop where
  mem : ∀ x : Nat, R'[x]? = some true ↔ R[x]? = some true ∨ x ∈ M
  fresh : ∀ x ∈ M, R[x]? = some false
  nodup : M.Nodup
  par : ∀ i x : Nat, M[i]? = some x → x ∈ ks ∨ ∃ i' y, i < i' ∧ M[i']? = some y ∧ x ∈ S y
  clo : ∀ x ∈ M, ∀ j ∈ S x, R'[j]? = some true
theorem Vis.made (h : Vis S R L ks R' L') : ∃ M, L' = L ++ M ∧ VisM S R ks R' M := by
  induction h with
  | nil => exact ⟨[], by simp, ⟨fun x => by simp, fun x hx => by simp at hx, by simp, fun i x hx => by simp at hx, fun x hx => by simp at hx⟩⟩
  | old hr _ ih =>
    obtain ⟨M, e, m⟩ := ih
    exact ⟨M, e, m.mem, m.fresh, m.nodup, fun i x hx => (m.par i x hx).imp (fun h => by simp [h]) id, m.clo⟩
  | @new R R1 R' L L1 L' ks j hr v1 v2 ih1 ih2 =>
    obtain ⟨M1, rfl, m1⟩ := ih1
    obtain ⟨M2, rfl, m2⟩ := ih2
    have hl : j < R.length := (List.getElem?_eq_some_iff.1 hr).1
    have hset : ∀ x : Nat, (R.set j true)[x]? = some true ↔ x = j ∨ R[x]? = some true := fun x => by
      rw [set_get hl]
      by_cases e : j = x
      · simp [e]
      · rw [if_neg e]
        exact ⟨.inr, fun h => h.resolve_left fun h => e h.symm⟩
    have hfr : ∀ x : Nat, (R.set j true)[x]? = some false → R[x]? = some false ∧ x ≠ j := fun x hx => by
      rw [set_get hl] at hx
      by_cases e : j = x
      · rw [if_pos e] at hx; cases hx
      · rw [if_neg e] at hx; exact ⟨hx, fun h => e h.symm⟩
    have hR1 : ∀ x : Nat, R1[x]? = some true ↔ x = j ∨ R[x]? = some true ∨ x ∈ M1 := fun x => by
      rw [m1.mem, hset, or_assoc]
    have hlen : R1.length = R.length := by have := v1.cnt.1; simpa using this
    have no : ∀ x : Nat, R1[x]? = some false → R[x]? = some false ∧ x ≠ j ∧ x ∉ M1 := fun x hx => by
      have hxl : x < R.length := by rw [← hlen]; exact (List.getElem?_eq_some_iff.1 hx).1
      have hno : ¬ (x = j ∨ R[x]? = some true ∨ x ∈ M1) := fun h => by rw [(hR1 x).2 h] at hx; cases hx
      rcases bool_get hxl with h1 | h1
      · exact absurd (.inr (.inl h1)) hno
      · exact ⟨h1, fun h => hno (.inl h), fun h => hno (.inr (.inr h))⟩
    refine ⟨M1 ++ [j] ++ M2, by simp [List.append_assoc], ⟨fun x => ?_, fun x hx => ?_, ?_, fun i x hx => ?_, fun x hx y hy => ?_⟩⟩
    · rw [m2.mem, hR1]
      simp only [List.mem_append, List.mem_singleton]
      constructor
      · rintro ((h | h | h) | h)
        · exact .inr (.inl (.inr h))
        · exact .inl h
        · exact .inr (.inl (.inl h))
        · exact .inr (.inr h)
      · rintro (h | (h | h) | h)
        · exact .inl (.inr (.inl h))
        · exact .inl (.inr (.inr h))
        · exact .inl (.inl h)
        · exact .inr h
    · simp only [List.mem_append, List.mem_singleton] at hx
      rcases hx with (h | h) | h
      · exact (hfr x (m1.fresh x h)).1
      · rw [h]; exact hr
      · exact (no x (m2.fresh x h)).1
    · rw [List.nodup_append]
      refine ⟨?_, m2.nodup, fun a ha b hb e => ?_⟩
      · rw [List.nodup_append]
        refine ⟨m1.nodup, by simp, fun a ha b hb e => ?_⟩
        have hb' : b = j := by simpa using hb
        rw [e, hb'] at ha
        exact (hfr _ (m1.fresh _ ha)).2 rfl
      · subst e
        have h2 := no a (m2.fresh a hb)
        rcases List.mem_append.1 ha with h | h
        · exact h2.2.2 h
        · exact h2.2.1 (by simpa using h)
    · rcases Nat.lt_trichotomy i M1.length with c | c | c
      · rw [List.append_assoc, List.getElem?_append_left c] at hx
        rcases m1.par i x hx with h | ⟨i', y, h1, h2, h3⟩
        · exact .inr ⟨M1.length, j, c, by simp, h⟩
        · have h4 := (List.getElem?_eq_some_iff.1 h2).1
          exact .inr ⟨i', y, h1, by rw [List.append_assoc, List.getElem?_append_left h4]; exact h2, h3⟩
      · subst c
        have : x = j := by simpa using hx.symm
        subst this
        exact .inl (by simp)
      · have hi : M1.length + 1 ≤ i := c
        have e1 : ∀ q : Nat, (M1 ++ [j] ++ M2)[M1.length + 1 + q]? = M2[q]? := fun q => by
          rw [List.getElem?_append_right (by simp)]; simp
        obtain ⟨q, rfl⟩ : ∃ q, i = M1.length + 1 + q := ⟨i - (M1.length + 1), by omega⟩
        rw [e1] at hx
        rcases m2.par q x hx with h | ⟨i', y, h1, h2, h3⟩
        · exact .inl (by simp [h])
        · exact .inr ⟨M1.length + 1 + i', y, by omega, by rw [e1]; exact h2, h3⟩
    · have mono := v2.cnt.2.2.2.1
      simp only [List.mem_append, List.mem_singleton] at hx
      rcases hx with (h | h) | h
      · exact mono y (m1.clo x h y hy)
      · subst h
        exact mono y (v1.cnt.2.2.2.2 y hy)
      · exact m2.clo x h y hy

/-- What is left to do with a stack of numbers, each with those of its steps that were not looked at; the top comes first. -/
inductive Run (S : Nat → List Nat) : List Bool → List Nat → List (Nat × List Nat) → List Bool → List Nat → Prop
  | nil {R : List Bool} {L : List Nat} : Run S R L [] R L
  | cons {R R1 R' : List Bool} {L L1 L' rest : List Nat} {k : Nat} {st : List (Nat × List Nat)} : Vis S R L rest R1 L1 → Run S R1 (L1 ++ [k]) st R' L' → Run S R L ((k, rest) :: st) R' L'
theorem Run.start (hr : R[k]? = some false) (h : Vis S R L [k] R' L') : Run S (R.set k true) L [(k, S k)] R' L' := by
  cases h with
  | old h1 _ => rw [hr] at h1; cases h1
  | new _ h1 h2 =>
    cases h2
    exact .cons h1 .nil
theorem Run.end_ (h : Run S R L [] R' L') : R = R' ∧ L = L' := by cases h; exact ⟨rfl, rfl⟩
theorem Run.leave {st : List (Nat × List Nat)} (h : Run S R L ((k, []) :: st) R' L') : Run S R (L ++ [k]) st R' L' := by
  cases h with
  | cons h1 h2 => cases h1; exact h2
theorem Run.old {rest : List Nat} {st : List (Nat × List Nat)} (h : Run S R L ((k, j :: rest) :: st) R' L') (hr : R[j]? = some true) : Run S R L ((k, rest) :: st) R' L' := by
  cases h with
  | cons h1 h2 =>
    cases h1 with
    | old _ h3 => exact .cons h3 h2
    | new h3 _ _ => rw [hr] at h3; cases h3
theorem Run.new {rest : List Nat} {st : List (Nat × List Nat)} (h : Run S R L ((k, j :: rest) :: st) R' L') (hr : R[j]? = some false) : Run S (R.set j true) L ((j, S j) :: (k, rest) :: st) R' L' := by
  cases h with
  | cons h1 h2 =>
    cases h1 with
    | old h3 _ => rw [hr] at h3; cases h3
    | new _ h3 h4 => exact .cons h3 (.cons h4 h2)

/-- The order of leaving, of all that a search from 0 visits. -/
def IsLft (S : Nat → List Nat) (n : Nat) (L : List Nat) : Prop := ∃ R, Vis S (List.replicate n false) [] [0] R L
theorem IsLft.one (h : IsLft S n L1) (h' : IsLft S n L2) : L1 = L2 := by
  obtain ⟨_, a⟩ := h
  obtain ⟨_, b⟩ := h'
  exact (a.det b).2
theorem IsLft.ex (hS : ∀ k j, j ∈ S k → j < n) (hn : 0 < n) : ∃ L, IsLft S n L := by
  obtain ⟨R', L', h⟩ := Vis.total hS _ (List.replicate n false) [] [0] (Nat.le_refl _) (by simp) (fun j hj => by simp at hj; omega)
  exact ⟨L', R', h⟩
/-- The order: the opposite of the order of leaving. -/
structure IsOrd (S : Nat → List Nat) (n : Nat) (O : List Nat) : Prop where
  pos : O[0]? = some 0
  lt : ∀ x ∈ O, x < n
  way : ∀ x : Nat, x ∈ O ↔ Way S x
  nodup : O.Nodup
  par : ∀ i x : Nat, O[i]? = some x → 0 < i → ∃ i' y, i' < i ∧ O[i']? = some y ∧ x ∈ S y
  len : O.length ≤ n
theorem IsLft.ord (h : IsLft S n L) (hn : 0 < n) : IsOrd S n L.reverse := by
  obtain ⟨R, h⟩ := h
  have h0 : (List.replicate n false)[0]? = some false := by rw [List.getElem?_replicate, if_pos hn]
  have hcnt := h.cnt
  obtain ⟨M, e, m⟩ := h.made
  rw [List.nil_append] at e
  subst e
  have hlast : ∃ M', L = M' ++ [0] := by
    cases h with
    | old h1 _ => rw [h0] at h1; cases h1
    | new _ _ h2 => cases h2; exact ⟨_, rfl⟩
  obtain ⟨M', rfl⟩ := hlast
  have hmem : ∀ x : Nat, x ∈ M' ++ [0] ↔ R[x]? = some true := fun x => by
    rw [m.mem]
    constructor
    · exact .inr
    · rintro (h | h)
      · rw [List.getElem?_replicate] at h
        split at h <;> cases h
      · exact h
  have hget : ∀ i x : Nat, (M' ++ [0]).reverse[i]? = some x → i < (M' ++ [0]).length ∧ (M' ++ [0])[(M' ++ [0]).length - 1 - i]? = some x := fun i x hx => by
    have hi : i < (M' ++ [0]).length := by have := (List.getElem?_eq_some_iff.1 hx).1; rw [List.length_reverse] at this; exact this
    exact ⟨hi, by rw [List.getElem?_reverse hi] at hx; exact hx⟩
  have hpar : ∀ i x : Nat, (M' ++ [0]).reverse[i]? = some x → 0 < i → ∃ i' y, i' < i ∧ (M' ++ [0]).reverse[i']? = some y ∧ x ∈ S y := fun i x hx h0i => by
    obtain ⟨hi, hx'⟩ := hget i x hx
    rcases m.par _ x hx' with h1 | ⟨i', y, h1, h2, h3⟩
    · exfalso
      have hx0 : x = 0 := by simpa using h1
      subst hx0
      have hlast : (M' ++ [0])[(M' ++ [0]).length - 1]? = some 0 := by simp
      have a1 := (List.getElem?_eq_some_iff.1 hx').1
      have a2 := (List.getElem?_eq_some_iff.1 hlast).1
      have := (List.getElem?_inj a1 m.nodup).1 (hx'.trans hlast.symm)
      omega
    · have a2 := (List.getElem?_eq_some_iff.1 h2).1
      refine ⟨(M' ++ [0]).length - 1 - i', y, by omega, ?_, h3⟩
      have e : ∀ a : Nat, i' < a → a - 1 - (a - 1 - i') = i' := fun a h => by omega
      rw [List.getElem?_reverse (by omega), e _ a2]
      exact h2
  refine ⟨by simp, fun x hx => ?_, fun x => ?_, List.pairwise_reverse.2 (m.nodup.imp fun h => Ne.symm h), hpar, ?_⟩
  · have := (List.getElem?_eq_some_iff.1 ((hmem x).1 (List.mem_reverse.1 hx))).1
    rw [hcnt.1, List.length_replicate] at this
    exact this
  · rw [List.mem_reverse]
    constructor
    · intro hx
      have key : ∀ (i : Nat) (x : Nat), (M' ++ [0]).reverse[i]? = some x → Way S x := fun i => by
        induction i using Nat.strongRecOn with
        | ind i ih =>
          intro x hx
          rcases Nat.eq_zero_or_pos i with rfl | h0i
          · have : x = 0 := by simpa using hx.symm
            rw [this]; exact .start
          · obtain ⟨i', y, h1, h2, h3⟩ := hpar i x hx h0i
            exact .step (ih i' h1 y h2) h3
      obtain ⟨i, hi, he⟩ := List.mem_iff_getElem.1 (List.mem_reverse.2 hx)
      exact key i x (by rw [← he]; exact List.getElem?_eq_getElem hi)
    · intro hw
      induction hw with
      | start => simp
      | step _ hj ih => exact (hmem _).2 (m.clo _ ih _ hj)
  · have := hcnt.2.1
    simp at this
    simp
    omega
end
end Go.Proofs.Ytlcmcmocjbeocaa
end

section
/-
  Plain mathematics of base 128: 'digs v' are the bytes of the varint of v; 'lenv v' is their number; no program is named here.
-/
namespace Go.Proofs.Ytlcmcmocjbeocaa

/-- The bytes of the varint of v. -/
def digs (v : Nat) : List Nat := if h : v < 128 then [v] else (v % 128 + 128) :: digs (v / 128)
termination_by v
decreasing_by omega

theorem digs_small {v : Nat} (h : v < 128) : digs v = [v] := by rw [digs]; simp [h]
theorem digs_great {v : Nat} (h : 128 ≤ v) : digs v = (v % 128 + 128) :: digs (v / 128) := by rw [digs]; simp [Nat.not_lt.2 h]

/-- Their number. -/
def lenv (v : Nat) : Nat := (digs v).length
theorem lenv_small {v : Nat} (h : v < 128) : lenv v = 1 := by simp [lenv, digs_small h]
theorem lenv_great {v : Nat} (h : 128 ≤ v) : lenv v = lenv (v / 128) + 1 := by simp [lenv, digs_great h]

theorem lenv_pos (v : Nat) : 1 ≤ lenv v := by
  rcases Nat.lt_or_ge v 128 with h | h
  · rw [lenv_small h]; omega
  · rw [lenv_great h]; omega

/-- The number of digits, by powers. -/
theorem lenv_eq (n : Nat) : ∀ v : Nat, (n = 0 ∨ 2 ^ (7 * n) ≤ v) → v < 2 ^ (7 * n + 7) → lenv v = n + 1 := by
  induction n with
  | zero => intro v _ h; exact lenv_small (by simpa using h)
  | succ n ih =>
    intro v h0 h1
    have e1 : 2 ^ (7 * (n + 1)) = 2 ^ (7 * n) * 128 := by rw [show 7 * (n + 1) = 7 * n + 7 by omega, Nat.pow_add]
    have e2 : 2 ^ (7 * (n + 1) + 7) = 2 ^ (7 * n + 7) * 128 := by rw [show 7 * (n + 1) + 7 = (7 * n + 7) + 7 by omega, Nat.pow_add]
    have hp : 1 ≤ 2 ^ (7 * n) := Nat.one_le_two_pow
    rcases h0 with h0 | h0
    · omega
    rw [e1] at h0
    rw [e2] at h1
    have hv : 128 ≤ v := by omega
    rw [lenv_great hv, ih (v / 128) ?_ ?_]
    · right; omega
    · omega

theorem lenv_le (v : Nat) (h : v < 18446744073709551616) : lenv v ≤ 10 := by
  have hs : ∀ n v : Nat, v < 2 ^ (7 * n + 7) → lenv v ≤ n + 1 := by
    intro n
    induction n with
    | zero => intro v h; rw [lenv_small (by simpa using h)]; omega
    | succ n ih =>
      intro v h
      rcases Nat.lt_or_ge v 128 with h1 | h1
      · rw [lenv_small h1]; omega
      · rw [lenv_great h1]
        have := ih (v / 128) (by
          have e2 : 2 ^ (7 * (n + 1) + 7) = 2 ^ (7 * n + 7) * 128 := by rw [show 7 * (n + 1) + 7 = (7 * n + 7) + 7 by omega, Nat.pow_add]
          omega)
        omega
  exact hs 9 v (by have : 2 ^ (7 * 9 + 7) = 1180591620717411303424 := by decide
                   omega)

/-- L is the number of bits of x. -/
def Bits (x L : Nat) : Prop := x < 2 ^ L ∧ (L = 0 ∨ 2 ^ (L - 1) ≤ x)

/-- From the number of bits to the number of digits. -/
theorem lenv_of_bits (v x L : Nat) (hx : x = v ∧ v % 2 = 1 ∨ x = v + 1 ∧ v % 2 = 0) (h : Bits x L) : (L + 7 - 1) / 7 = lenv v := by
  obtain ⟨h1, h2⟩ := h
  have hx1 : 1 ≤ x := by omega
  have hL : 1 ≤ L := by
    rcases Nat.eq_zero_or_pos L with h0 | h0
    · subst h0; simp at h1; omega
    · omega
  obtain h2 : 2 ^ (L - 1) ≤ x := by rcases h2 with h2 | h2 <;> omega
  have hn : L + 7 - 1 = 7 * ((L - 1) / 7) + (L - 1) % 7 + 7 := by omega
  have hq : (L + 7 - 1) / 7 = (L - 1) / 7 + 1 := by omega
  rw [hq]
  symm
  apply lenv_eq
  · rcases Nat.eq_zero_or_pos ((L - 1) / 7) with h0 | h0
    · left; exact h0
    · right
      have hle : 2 ^ (7 * ((L - 1) / 7)) ≤ 2 ^ (L - 1) := Nat.pow_le_pow_right (by omega) (by omega)
      have he : 2 ^ (7 * ((L - 1) / 7)) % 2 = 0 := by
        obtain ⟨k, hk⟩ : ∃ k, 7 * ((L - 1) / 7) = k + 1 := ⟨7 * ((L - 1) / 7) - 1, by omega⟩
        rw [hk, Nat.pow_succ]; omega
      omega
  · have hle : 2 ^ L ≤ 2 ^ (7 * ((L - 1) / 7) + 7) := Nat.pow_le_pow_right (by omega) (by omega)
    omega

/-- The table of the bits of a byte. -/
def bitsOfByte (x : Nat) : Nat := if x = 0 then 0 else if x < 2 then 1 else if x < 4 then 2 else if x < 8 then 3 else if x < 16 then 4 else if x < 32 then 5 else if x < 64 then 6 else if x < 128 then 7 else 8
theorem bits_of_byte (x : Nat) (h : x < 256) : Bits x (bitsOfByte x) := by
  unfold bitsOfByte Bits
  repeat' split
  all_goals (refine ⟨by simp; omega, by simp; try omega⟩)

/-- Bits of a number that was shifted. -/
theorem bits_shift (x s L : Nat) (hL : 1 ≤ L) (h : Bits (x / 2 ^ s) L) : Bits x (s + L) := by
  obtain ⟨h1, h2⟩ := h
  have hp : 0 < 2 ^ s := Nat.two_pow_pos s
  refine ⟨?_, .inr ?_⟩
  · rw [Nat.pow_add, Nat.mul_comm]
    exact (Nat.div_lt_iff_lt_mul hp).1 h1
  · rcases h2 with h2 | h2
    · omega
    · rw [show s + L - 1 = (L - 1) + s by omega, Nat.pow_add]
      exact (Nat.le_div_iff_mul_le hp).1 h2
theorem bits_pos (x L : Nat) (hx : 1 ≤ x) (h : Bits x L) : 1 ≤ L := by
  rcases Nat.eq_zero_or_pos L with h0 | h0
  · subst h0; have := h.1; simp at this; omega
  · omega
end Go.Proofs.Ytlcmcmocjbeocaa
end
