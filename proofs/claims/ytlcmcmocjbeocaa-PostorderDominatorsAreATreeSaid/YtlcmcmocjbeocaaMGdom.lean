import Derived.Test.YtlcmcmocjbeocaaMGdfs
set_option linter.unusedVariables false
set_option linter.unusedSimpArgs false
section
/-
  Plain mathematics of dominance in a graph of numbers. Nothing here names the program.
-/
namespace Go.Proofs.Ytlcmcmocjbeocaa

/-- There is a way from 0 to a number that does not touch d. -/
inductive WA (S : Nat → List Nat) (d : Nat) : Nat → Prop
  | start : d ≠ 0 → WA S d 0
  | step {k j : Nat} : WA S d k → j ∈ S k → j ≠ d → WA S d j
/-- d dominates k, which is reached. -/
def Dm (S : Nat → List Nat) (d k : Nat) : Prop := Way S k ∧ ¬ WA S d k
section
variable {S : Nat → List Nat} {a b c d e k j x y n m i t : Nat}
theorem WA.way (h : WA S d k) : Way S k := by
  induction h with
  | start _ => exact .start
  | step _ hj _ ih => exact .step ih hj
theorem WA.ne (h : WA S d k) : k ≠ d := by
  cases h with
  | start h => exact fun e => h e.symm
  | step _ _ h => exact h
theorem wa_zero : ¬ WA S 0 k := fun h => by
  induction h with
  | start h => exact h rfl
  | step _ _ _ ih => exact ih
theorem Dm.refl (h : Way S k) : Dm S k k := ⟨h, fun h => h.ne rfl⟩
theorem Dm.zero (h : Way S k) : Dm S 0 k := ⟨h, wa_zero⟩
theorem Dm.back (h : Dm S d j) (hk : Way S k) (hj : j ∈ S k) (hne : d ≠ j) : Dm S d k := ⟨hk, fun hw => h.2 (.step hw hj fun e => hne e.symm)⟩
theorem Dm.way (h : Dm S d k) : Way S d := by
  by_cases hd : Way S d
  · exact hd
  · exfalso
    refine h.2 ?_
    have hw := h.1
    clear h
    induction hw with
    | start => exact .start fun e => hd (e ▸ .start)
    | step hw hj ih => exact .step ih hj fun e => hd (e ▸ .step hw hj)
theorem Dm.trans (h1 : Dm S a b) (h2 : Dm S b c) : Dm S a c := by
  refine ⟨h2.1, fun hw => ?_⟩
  have key : WA S b c ∨ WA S a b := by
    clear h1 h2
    induction hw with
    | start h =>
      by_cases hb : b = 0
      · subst hb; exact .inr (.start h)
      · exact .inl (.start hb)
    | @step k j h hj hne ih =>
      rcases ih with ih | ih
      · by_cases hb : j = b
        · subst hb; exact .inr (.step h hj hne)
        · exact .inl (.step ih hj hb)
      · exact .inr ih
  rcases key with h | h
  · exact h2.2 h
  · exact h1.2 h
theorem Dm.total (h1 : Dm S d k) (h2 : Dm S e k) : Dm S d e ∨ Dm S e d := by
  by_cases c1 : WA S d e
  · by_cases c2 : WA S e d
    · exfalso
      have key : WA S d k ∨ WA S e k := by
        have hw := h1.1
        clear h1 h2
        induction hw with
        | start =>
          by_cases hd : d = 0
          · subst hd; exact absurd c1 wa_zero
          · exact .inl (.start hd)
        | @step k j _ hj ih =>
          rcases ih with ih | ih
          · by_cases hd : j = d
            · subst hd; exact .inr c2
            · exact .inl (.step ih hj hd)
          · by_cases hd : j = e
            · subst hd; exact .inl c1
            · exact .inr (.step ih hj hd)
      exact key.elim h1.2 h2.2
    · exact .inr ⟨h1.way, c2⟩
  · exact .inl ⟨h2.way, c1⟩
theorem Dm.anti (h1 : Dm S d e) (h2 : Dm S e d) : d = e := by
  by_cases hne : d = e
  · exact hne
  · exfalso
    have key : ∀ k, Way S k → WA S d k ∧ WA S e k := fun k hw => by
      induction hw with
      | start =>
        refine ⟨.start fun h => ?_, .start fun h => ?_⟩
        · subst h; exact h2.2 (.start fun h => hne h.symm)
        · subst h; exact h1.2 (.start hne)
      | @step k j _ hj ih =>
        refine ⟨.step ih.1 hj fun h => ?_, .step ih.2 hj fun h => ?_⟩
        · subst h; exact h2.2 (.step ih.2 hj hne)
        · subst h; exact h1.2 (.step ih.1 hj fun h => hne h.symm)
    exact (key d h1.way).1.ne rfl
/-- x is k's immediate dominator. -/
structure IsIdom (S : Nat → List Nat) (k x : Nat) : Prop where
  ne : x ≠ k
  dm : Dm S x k
  all : ∀ d, d ≠ k → Dm S d k → Dm S d x
theorem IsIdom.one (h : IsIdom S k x) (h' : IsIdom S k y) : x = y := (h'.all x h.ne h.dm).anti (h.all y h'.ne h'.dm)
/-- The immediate dominators, or -1. -/
structure IsDoms (S : Nat → List Nat) (n : Nat) (D : List Int) : Prop where
  len : D.length = n
  no : ∀ k, k < n → k = 0 ∨ ¬ Way S k → D[k]? = some (-1)
  idom : ∀ k, k < n → k ≠ 0 → Way S k → ∃ x : Nat, D[k]? = some (x : Int) ∧ IsIdom S k x
theorem IsDoms.one {D D' : List Int} (h : IsDoms S n D) (h' : IsDoms S n D') : D = D' := by
  refine List.ext_getElem? fun k => ?_
  by_cases hk : k < n
  · by_cases h0 : k = 0 ∨ ¬ Way S k
    · rw [h.no k hk h0, h'.no k hk h0]
    · have h1 : k ≠ 0 := fun e => h0 (.inl e)
      have h2 : Way S k := by
        by_cases h2 : Way S k
        · exact h2
        · exact absurd (.inr h2) h0
      obtain ⟨x, e1, i1⟩ := h.idom k hk h1 h2
      obtain ⟨y, e2, i2⟩ := h'.idom k hk h1 h2
      rw [e1, e2, i1.one i2]
  · rw [List.getElem?_eq_none (by rw [h.len]; omega), List.getElem?_eq_none (by rw [h'.len]; omega)]

/-- Which numbers are reached without d, as Bools. -/
structure IsWo (S : Nat → List Nat) (d n : Nat) (R : List Bool) : Prop where
  len : R.length = n
  iff : ∀ k : Nat, k < n → (R[k]? = some true ↔ WA S d k)
theorem IsWo.zero : IsWo S 0 n (List.replicate n false) := ⟨by simp, fun k hk => by rw [List.getElem?_replicate, if_pos hk]; exact ⟨fun h => (by cases h), fun h => absurd h wa_zero⟩⟩
/-- What its fixpoint keeps. -/
structure WoI (S : Nat → List Nat) (d n : Nat) (R : List Bool) : Prop where
  len : R.length = n
  way : ∀ k : Nat, R[k]? = some true → WA S d k
  zero : R[0]? = some true
/-- If nothing was changed. -/
def WoS (S : Nat → List Nat) (d : Nat) (R : List Bool) (k i : Nat) : Prop := (∀ m : Nat, m < k → R[m]? = some true → ∀ j ∈ S m, j ≠ d → R[j]? = some true) ∧ (R[k]? = some true → ∀ j ∈ (S k).take i, j ≠ d → R[j]? = some true)
variable {R : List Bool}
theorem WoI.start (h : 0 < n) (hd : d ≠ 0) : WoI S d n ((List.replicate n false).set 0 true) := by
  have h0 := FpI.start (S := S) h
  refine ⟨h0.len, fun k hk => ?_, h0.zero⟩
  rw [set_get (by simpa using h)] at hk
  by_cases e : 0 = k
  · subst e; exact .start hd
  · rw [if_neg e, List.getElem?_replicate] at hk
    split at hk <;> cases hk
theorem WoI.new (h : WoI S d n R) (hk : R[k]? = some true) (hj : (S k)[i]? = some j) (hne : j ≠ d) (hr : R[j]? = some false) : WoI S d n (R.set j true) := by
  have hl : j < R.length := (List.getElem?_eq_some_iff.1 hr).1
  refine ⟨by simpa using h.len, fun m hm => ?_, set_true h.zero⟩
  rw [set_get hl] at hm
  by_cases e : j = m
  · subst e; exact .step (h.way k hk) (List.mem_of_getElem? hj) hne
  · rw [if_neg e] at hm; exact h.way m hm
theorem WoS.start : WoS S d R 0 0 := ⟨fun m hm => by omega, fun _ j hj => by simp at hj⟩
theorem WoS.old (h : WoS S d R k i) (hj : (S k)[i]? = some j) (hr : j ≠ d → R[j]? = some true) : WoS S d R k (i + 1) := ⟨h.1, fun hk m hm => by
  rw [List.take_add_one, hj, List.mem_append] at hm
  rcases hm with hm | hm
  · exact h.2 hk m hm
  · simp at hm; subst hm; exact hr⟩
theorem WoS.full (h : WoS S d R k (S k).length) : WoS S d R (k + 1) 0 := ⟨fun m hm hr j hj => by
  by_cases e : m = k
  · subst e; exact h.2 hr j (by simpa using hj)
  · exact h.1 m (by omega) hr j hj, fun _ j hj => by simp at hj⟩
theorem WoS.skip (h : WoS S d R k i) (hr : R[k]? = some false) : WoS S d R (k + 1) 0 := ⟨fun m hm hr' j hj => by
  by_cases e : m = k
  · subst e; rw [hr] at hr'; cases hr'
  · exact h.1 m (by omega) hr' j hj, fun _ j hj => by simp at hj⟩
theorem WoI.end_ (h : WoI S d n R) (hs : WoS S d R n 0) : IsWo S d n R := by
  have key : ∀ k, WA S d k → R[k]? = some true := fun k hw => by
    induction hw with
    | start _ => exact h.zero
    | @step k j _ hj hne ih =>
      have h1 := (List.getElem?_eq_some_iff.1 ih).1
      have h2 := h.len
      exact hs.1 k (by omega) ih j hj hne
  exact ⟨h.len, fun k _ => ⟨h.way k, key k⟩⟩

/-- Which numbers d dominates, as Bools. -/
structure IsDmR (S : Nat → List Nat) (n d : Nat) (B : List Bool) : Prop where
  len : B.length = n
  iff : ∀ k : Nat, k < n → (B[k]? = some true ↔ Dm S d k)
/-- The search for k's immediate dominator among the numbers below m. -/
def DmI (S : Nat → List Nat) (k m : Nat) (o : Int) : Prop :=
  (o = -1 ∧ ∀ d, d < m → d ≠ k → ¬ Dm S d k) ∨ (∃ x : Nat, o = (x : Int) ∧ x < m ∧ x ≠ k ∧ Dm S x k ∧ ∀ d, d < m → d ≠ k → Dm S d k → Dm S d x)
variable {o : Int}
theorem DmI.start : DmI S k 0 (-1) := .inl ⟨rfl, fun d hd => by omega⟩
theorem DmI.skip (h : DmI S k m o) (hm : m = k ∨ ¬ Dm S m k) : DmI S k (m + 1) o := by
  have no : m ≠ k → ¬ Dm S m k := fun h1 => hm.resolve_left h1
  rcases h with ⟨e, h⟩ | ⟨x, e, h1, h2, h3, h4⟩
  · refine .inl ⟨e, fun d hd hne => ?_⟩
    by_cases c : d = m
    · subst c; exact no hne
    · exact h d (by omega) hne
  · refine .inr ⟨x, e, by omega, h2, h3, fun d hd hne hdm => ?_⟩
    by_cases c : d = m
    · subst c; exact absurd hdm (no hne)
    · exact h4 d (by omega) hne hdm
theorem DmI.first (h : DmI S k m (-1)) (hne : m ≠ k) (hm : Dm S m k) : DmI S k (m + 1) (m : Int) := by
  rcases h with ⟨-, h⟩ | ⟨x, e, -⟩
  · refine .inr ⟨m, rfl, by omega, hne, hm, fun d hd hd2 hdm => ?_⟩
    by_cases c : d = m
    · subst c; exact .refl hm.way
    · exact absurd hdm (h d (by omega) hd2)
  · omega
theorem DmI.next (h : DmI S k m (x : Int)) (hne : m ≠ k) (hm : Dm S m k) (hx : Dm S x m) : DmI S k (m + 1) (m : Int) := by
  rcases h with ⟨e, -⟩ | ⟨x', e, h1, h2, h3, h4⟩
  · omega
  · have : x = x' := by omega
    subst this
    refine .inr ⟨m, rfl, by omega, hne, hm, fun d hd hd2 hdm => ?_⟩
    by_cases c : d = m
    · subst c; exact .refl hm.way
    · exact (h4 d (by omega) hd2 hdm).trans hx
theorem DmI.keep (h : DmI S k m (x : Int)) (hm : Dm S m k) (hx : ¬ Dm S x m) : DmI S k (m + 1) (x : Int) := by
  rcases h with ⟨e, -⟩ | ⟨x', e, h1, h2, h3, h4⟩
  · omega
  · have : x = x' := by omega
    subst this
    refine .inr ⟨x, rfl, by omega, h2, h3, fun d hd hd2 hdm => ?_⟩
    by_cases c : d = m
    · subst c; exact (Dm.total hdm h3).resolve_right hx
    · exact h4 d (by omega) hd2 hdm
theorem DmI.lt (h : DmI S k m (x : Int)) : x < m ∧ Dm S x k := by
  rcases h with ⟨e, -⟩ | ⟨x', e, h1, h2, h3, h4⟩
  · omega
  · have : x = x' := by omega
    subst this; exact ⟨h1, h3⟩
theorem DmI.cases (h : DmI S k m o) : o = -1 ∨ ∃ x : Nat, o = (x : Int) ∧ x < m := by
  rcases h with ⟨e, -⟩ | ⟨x', e, h1, h2, h3, h4⟩
  · exact .inl e
  · exact .inr ⟨x', e, h1⟩
/-- What is found for k, when all were looked at. -/
theorem DmI.end_ (h : DmI S k n o) (hS : ∀ k, Way S k → k < n) : ((k = 0 ∨ ¬ Way S k) → o = -1) ∧ (k ≠ 0 → Way S k → ∃ x : Nat, o = (x : Int) ∧ IsIdom S k x) := by
  rcases h with ⟨e, h⟩ | ⟨x, e, h1, h2, h3, h4⟩
  · exact ⟨fun _ => e, fun h0 hw => absurd (Dm.zero hw) (h 0 (hS 0 .start) (fun e => h0 e.symm))⟩
  · refine ⟨fun h0 => ?_, fun _ _ => ⟨x, e, h2, h3, fun d hne hd => h4 d (hS d hd.way) hne hd⟩⟩
    rcases h0 with rfl | h0
    · exfalso
      refine h3.2 (.start h2)
    · exact absurd h3.1 h0
end
end Go.Proofs.Ytlcmcmocjbeocaa
end

section
/-
  Plain mathematics of climbing in a tree of supposed dominators until nothing changes. Nothing here names the program.
-/
namespace Go.Proofs.Ytlcmcmocjbeocaa

/-- There is a way of at most k steps from 0 to a number that does not touch d. -/
inductive WR (E : Nat → Nat → Prop) (d : Nat) : Nat → Nat → Prop
  | start {k : Nat} : d ≠ 0 → WR E d k 0
  | step {k p i : Nat} : WR E d k p → E p i → i ≠ d → WR E d (k + 1) i
/-- No way to i avoids d. -/
def DR (E : Nat → Nat → Prop) (d i : Nat) : Prop := ∀ k, ¬ WR E d k i
/-- A graph of ranks: each but the first has a source of smaller rank. -/
structure Rk (N : Nat) (E : Nat → Nat → Prop) : Prop where
  inn : ∀ p i, E p i → p < N ∧ i < N
  par : ∀ i, i < N → 0 < i → ∃ p, p < i ∧ E p i
/-- a is on the chain that climbs from m. -/
inductive Ch (U : List Int) : Nat → Nat → Prop
  | refl {m : Nat} : Ch U m m
  | step {m u a : Nat} : 0 < m → U[m]? = some (u : Int) → Ch U u a → Ch U m a
/-- A tree in which the numbers below K are known. -/
structure UpI (N : Nat) (E : Nat → Nat → Prop) (U : List Int) (K : Nat) : Prop where
  len : U.length = N
  kn : ∀ j, j < K → ∃ u : Nat, U[j]? = some (u : Int) ∧ (j = 0 → u = 0) ∧ (0 < j → u < j) ∧ (∀ d, d ≠ j → DR E d j → DR E d u)
  un : ∀ j, K ≤ j → j < N → U[j]? = some (-1)
  kN : K ≤ N
/-- What is found for i. -/
structure Nr (N : Nat) (E : Nat → Nat → Prop) (U : List Int) (K i v : Nat) : Prop where
  zero : i = 0 → v = 0
  lt : 0 < i → v < i
  lo : ∀ d, d ≠ i → DR E d i → DR E d v
  hi : K = N → 0 < i → ∀ p, E p i → Ch U p v
/-- What a round keeps: r rounds are over, i numbers of this one are done; U0 is the tree at its start. -/
structure RdI (N : Nat) (E : Nat → Nat → Prop) (U0 U : List Int) (r i : Nat) (ch : Bool) : Prop where
  up : UpI N E U (if r = 0 then i else N)
  old : 0 < r → ∀ m u : Nat, 0 < m → m < N → U[m]? = some (u : Int) → ¬ WR E u (r - 1) m
  new : ∀ m u : Nat, 0 < m → m < i → U[m]? = some (u : Int) → ¬ WR E u r m
  same : ch = false → U = U0 ∧ (0 < i → 0 < r) ∧ ∀ m, 0 < m → m < i → ∃ u : Nat, U[m]? = some (u : Int) ∧ ∀ p, E p m → Ch U p u
  iN : i ≤ N
section
variable {N K k a b c d e u v i j m p r : Nat} {E : Nat → Nat → Prop} {U U0 : List Int} {ch : Bool}
theorem WR.more (h : WR E d k i) : WR E d (k + 1) i := by
  induction h with
  | start h => exact .start h
  | step _ h1 h2 ih => exact .step ih h1 h2
theorem WR.mono (h : WR E d k i) {k' : Nat} (hk : k ≤ k') : WR E d k' i := by
  induction hk with
  | refl => exact h
  | step _ ih => exact ih.more
theorem WR.ne (h : WR E d k i) : i ≠ d := by
  cases h with
  | start h => exact fun e => h e.symm
  | step _ _ h => exact h
/-- A way that avoids a, where none of its length avoids u, leads to u. -/
theorem WR.part (h : WR E a k m) : ¬ WR E u k m → WR E a k u := by
  induction h with
  | @start k h =>
    intro hu
    by_cases hu0 : u = 0
    · subst hu0; exact .start h
    · exact absurd (.start hu0) hu
  | @step k p i h h1 h2 ih =>
    intro hu
    by_cases e : i = u
    · subst e; exact .step h h1 h2
    · exact (ih fun hw => hu (.step hw h1 e)).more
theorem DR.zero (h : DR E d 0) : d = 0 := by
  by_cases hd : d = 0
  · exact hd
  · exact absurd (.start hd) (h 0)
theorem DR.back (h : DR E d i) (hp : E p i) (hne : d ≠ i) : DR E d p := fun k hw => h (k + 1) (.step hw hp fun e => hne e.symm)
theorem DR.le (hR : Rk N E) : ∀ (i : Nat), i < N → DR E d i → d ≤ i := by
  intro i
  induction i using Nat.strongRecOn with
  | ind i ih =>
    intro hi h
    by_cases hne : d = i
    · omega
    · rcases Nat.eq_zero_or_pos i with rfl | h0
      · exact Nat.le_of_eq h.zero
      · obtain ⟨p, h1, h2⟩ := hR.par i hi h0
        have := ih p h1 (by omega) (h.back h2 hne)
        omega
theorem Ch.trans (h : Ch U a b) (h' : Ch U b c) : Ch U a c := by
  induction h with
  | refl => exact h'
  | step h0 h1 _ ih => exact .step h0 h1 (ih h')
theorem Ch.up (h : Ch U a b) (h0 : 0 < b) (hu : U[b]? = some (u : Int)) : Ch U a u := h.trans (.step h0 hu .refl)
theorem UpI.get (h : UpI N E U K) (hj : j < K) (hu : U[j]? = some (u : Int)) : (j = 0 → u = 0) ∧ (0 < j → u < j) ∧ (∀ d, d ≠ j → DR E d j → DR E d u) := by
  obtain ⟨u', e, r⟩ := h.kn j hj
  rw [hu] at e
  injection e with e
  have : u = u' := by omega
  subst this; exact r
theorem UpI.le (h : UpI N E U K) (hc : Ch U m a) : m < K → a ≤ m := by
  induction hc with
  | refl => exact fun _ => Nat.le_refl _
  | step h0 h1 _ ih =>
    intro hm
    have := (h.get hm h1).2.1 h0
    have := ih (by omega)
    omega
/-- Two that climb until they meet. -/
structure MtI (N : Nat) (E : Nat → Nat → Prop) (U : List Int) (K a0 b0 a b : Nat) : Prop where
  ca : Ch U a0 a
  cb : Ch U b0 b
  lo : ∀ d, DR E d a0 → DR E d b0 → DR E d a ∧ DR E d b
  aK : a < K
  bK : b < K
theorem MtI.start (ha : a < K) (hb : b < K) : MtI N E U K a b a b := ⟨.refl, .refl, fun _ h1 h2 => ⟨h1, h2⟩, ha, hb⟩
variable {a0 b0 : Nat}
theorem MtI.left (h : MtI N E U K a0 b0 a b) (hU : UpI N E U K) (hR : Rk N E) (hab : b < a) (hu : U[a]? = some (u : Int)) : MtI N E U K a0 b0 u b ∧ u < a := by
  have hg := hU.get h.aK hu
  have hlt := hg.2.1 (by omega)
  have := h.aK
  have hKN := hU.kN
  refine ⟨⟨h.ca.up (by omega) hu, h.cb, fun d h1 h2 => ?_, by omega, h.bK⟩, hlt⟩
  obtain ⟨q1, q2⟩ := h.lo d h1 h2
  have := DR.le hR b (by omega) q2
  exact ⟨hg.2.2 d (by omega) q1, q2⟩
theorem MtI.right (h : MtI N E U K a0 b0 a b) (hU : UpI N E U K) (hR : Rk N E) (hab : a < b) (hu : U[b]? = some (u : Int)) : MtI N E U K a0 b0 a u ∧ u < b := by
  have hg := hU.get h.bK hu
  have hlt := hg.2.1 (by omega)
  have := h.bK
  have hKN := hU.kN
  refine ⟨⟨h.ca, h.cb.up (by omega) hu, fun d h1 h2 => ?_, h.aK, by omega⟩, hlt⟩
  obtain ⟨q1, q2⟩ := h.lo d h1 h2
  have := DR.le hR a (by omega) q1
  exact ⟨q1, hg.2.2 d (by omega) q2⟩
/-- Where two meet. -/
structure IsMt (E : Nat → Nat → Prop) (U : List Int) (K a0 b0 c : Nat) : Prop where
  ca : Ch U a0 c
  cb : Ch U b0 c
  lo : ∀ d, DR E d a0 → DR E d b0 → DR E d c
  cK : c < K
theorem MtI.end_ (h : MtI N E U K a0 b0 c c) : IsMt E U K a0 b0 c := ⟨h.ca, h.cb, fun d h1 h2 => (h.lo d h1 h2).1, h.aK⟩
/-- The nearest so far, of the first sources of i. -/
def NsI (E : Nat → Nat → Prop) (U : List Int) (K i : Nat) (F : List Nat) (t : Nat) (o : Int) : Prop :=
  (o = -1 ∧ ∀ p ∈ F.take t, K ≤ p) ∨ (∃ b : Nat, o = (b : Int) ∧ b < K ∧ (∀ p ∈ F.take t, p < K → Ch U p b) ∧ (∀ d, d ≠ i → DR E d i → DR E d b))
variable {F : List Nat} {t : Nat} {o : Int}
theorem NsI.start : NsI E U K i F 0 (-1) := .inl ⟨rfl, fun p hp => by simp at hp⟩
theorem take_mem {x : Nat} (hp : F[t]? = some p) (hx : x ∈ F.take (t + 1)) : x ∈ F.take t ∨ x = p := by
  rw [List.take_add_one, hp, List.mem_append] at hx
  exact hx.imp id fun h => by simpa using h
theorem NsI.skip (h : NsI E U K i F t o) (hp : F[t]? = some p) (hK : K ≤ p) : NsI E U K i F (t + 1) o := by
  rcases h with ⟨e, h⟩ | ⟨b, e, h1, h2, h3⟩
  · exact .inl ⟨e, fun x hx => (take_mem hp hx).elim (h x) fun e => e ▸ hK⟩
  · exact .inr ⟨b, e, h1, fun x hx hxK => (take_mem hp hx).elim (fun hx => h2 x hx hxK) fun e => by omega, h3⟩
theorem NsI.first (h : NsI E U K i F t (-1)) (hp : F[t]? = some p) (hK : p < K) (hE : E p i) : NsI E U K i F (t + 1) (p : Int) := by
  rcases h with ⟨-, h⟩ | ⟨b, e, -⟩
  · refine .inr ⟨p, rfl, hK, fun x hx hxK => ?_, fun d hne hd => hd.back hE hne⟩
    rcases take_mem hp hx with hx | rfl
    · have := h x hx; omega
    · exact .refl
  · omega
theorem NsI.meet (h : NsI E U K i F t (b : Int)) (hp : F[t]? = some p) (hE : E p i) (hm : IsMt E U K b p c) : NsI E U K i F (t + 1) (c : Int) := by
  rcases h with ⟨e, -⟩ | ⟨b', e, h1, h2, h3⟩
  · omega
  · have : b = b' := by omega
    subst this
    refine .inr ⟨c, rfl, hm.cK, fun x hx hxK => ?_, fun d hne hd => hm.lo d (h3 d hne hd) (hd.back hE hne)⟩
    rcases take_mem hp hx with hx | rfl
    · exact (h2 x hx hxK).trans hm.ca
    · exact hm.cb
theorem NsI.cases (h : NsI E U K i F t o) : o = -1 ∨ ∃ b : Nat, o = (b : Int) ∧ b < K := by
  rcases h with ⟨e, -⟩ | ⟨b, e, h, -⟩
  · exact .inl e
  · exact .inr ⟨b, e, h⟩
theorem NsI.end_ (h : NsI E U K i F F.length o) (hF : ∀ p, p ∈ F ↔ E p i) (hU : UpI N E U K) (hR : Rk N E) (hi : i < N) (hiK : i ≤ K) (h0 : 0 < i) : ∃ v : Nat, o = (v : Int) ∧ Nr N E U K i v := by
  obtain ⟨p, h1, h2⟩ := hR.par i hi h0
  have hp : p ∈ F.take F.length := by rw [List.take_length]; exact (hF p).2 h2
  rcases h with ⟨-, h⟩ | ⟨b, e, h3, h4, h5⟩
  · have := h p hp; omega
  · refine ⟨b, e, fun e => by omega, fun _ => ?_, h5, fun hK _ q hq => ?_⟩
    · have := hU.le (h4 p hp (by omega)) (by omega); omega
    · have := hR.inn q i hq
      exact h4 q (by rw [List.take_length]; exact (hF q).2 hq) (by omega)
theorem Nr.first : Nr N E U K 0 0 := ⟨fun _ => rfl, fun h => by omega, fun _ hne hd => absurd hd.zero hne, fun _ h => by omega⟩
theorem UpI.start (N : Nat) (E : Nat → Nat → Prop) : UpI N E (List.replicate N (-1)) 0 := ⟨by simp, fun j hj => by omega, fun j _ hj => by rw [List.getElem?_replicate, if_pos hj], by omega⟩
theorem set_getI {x : Int} (hi : i < U.length) : (U.set i x)[j]? = if i = j then some x else U[j]? := by
  rw [List.getElem?_set]
  by_cases h : i = j
  · subst h; simp [hi]
  · simp [h]
theorem UpI.set (h : UpI N E U K) (hi : i < N) (hiK : i ≤ K) (hn : Nr N E U K i v) : UpI N E (U.set i (v : Int)) (max K (i + 1)) := by
  have hl : i < U.length := by rw [h.len]; exact hi
  have hKN := h.kN
  refine ⟨by simpa using h.len, fun j hj => ?_, fun j hj hjN => ?_, by omega⟩
  · rw [set_getI hl]
    by_cases e : i = j
    · subst e
      exact ⟨v, if_pos rfl, hn.zero, hn.lt, hn.lo⟩
    · rw [if_neg e]; exact h.kn j (by omega)
  · rw [set_getI hl, if_neg (by omega)]; exact h.un j (by omega) hjN
/-- There is a number of steps that suffices for all ways. -/
theorem bound1 {P : Nat → Nat → Prop} (hm : ∀ x k k', P x k → k ≤ k' → P x k') : ∀ n, ∃ K, ∀ x, x < n → (∃ k, P x k) → P x K := by
  intro n
  induction n with
  | zero => exact ⟨0, fun x hx => by omega⟩
  | succ n ih =>
    obtain ⟨K, h⟩ := ih
    by_cases hn : ∃ k, P n k
    · obtain ⟨k, hk⟩ := hn
      refine ⟨max K k, fun x hx hex => ?_⟩
      by_cases e : x = n
      · subst e; exact hm _ _ _ hk (by omega)
      · exact hm _ _ _ (h x (by omega) hex) (by omega)
    · refine ⟨K, fun x hx hex => ?_⟩
      by_cases e : x = n
      · subst e; exact absurd hex hn
      · exact h x (by omega) hex
theorem wr_bound (N : Nat) (E : Nat → Nat → Prop) : ∃ K0, ∀ d i k, d < N → i < N → WR E d k i → WR E d K0 i := by
  have h1 : ∀ i, ∃ K, ∀ d, d < N → (∃ k, WR E d k i) → WR E d K i := fun i => bound1 (P := fun d k => WR E d k i) (fun _ _ _ h hk => h.mono hk) N
  obtain ⟨K, h⟩ := bound1 (P := fun i K => ∀ d, d < N → (∃ k, WR E d k i) → WR E d K i) (fun i k k' h hk d hd hex => (h d hd hex).mono hk) N
  exact ⟨K, fun d i k hd hi hw => h i hi (h1 i) d hd ⟨k, hw⟩⟩

/-- A chain lies on all ways of so many steps, if each step of it does. -/
theorem ch_on (hc : Ch U p a) : UpI N E U N → (∀ m u : Nat, 0 < m → m < N → U[m]? = some (u : Int) → ¬ WR E u k m) → p < N → ¬ WR E a k p := by
  induction hc with
  | refl => exact fun _ _ _ h => h.ne rfl
  | @step m u a h0 h1 _ ih =>
    intro hU hB hp hw
    have := (hU.get hp h1).2.1 h0
    exact ih hU hB (by omega) (hw.part (hB m u h0 hp h1))
theorem nr_on (hU : UpI N E U N) (hR : Rk N E) (hB : ∀ m u : Nat, 0 < m → m < N → U[m]? = some (u : Int) → ¬ WR E u k m) (h0 : 0 < i) (hn : ∀ p, E p i → Ch U p v) : ¬ WR E v (k + 1) i := by
  intro hw
  cases hw with
  | start _ => omega
  | step h1 h2 _ => exact ch_on (hn _ h2) hU hB (hR.inn _ _ h2).1 h1
theorem RdI.start0 (N : Nat) (E : Nat → Nat → Prop) : RdI N E (List.replicate N (-1)) (List.replicate N (-1)) 0 0 false :=
  ⟨UpI.start N E, fun h => by omega, fun m u h1 h2 => by omega, fun _ => ⟨rfl, fun h => by omega, fun m h1 h2 => by omega⟩, by omega⟩
/-- One number more. -/
theorem RdI.step (h : RdI N E U0 U r i ch) (hR : Rk N E) (hi : i < N) (hn : Nr N E U (if r = 0 then i else N) i v) : RdI N E U0 (U.set i (v : Int)) r (i + 1) (ch || decide ((v : Int) ≠ (U[i]?).getD 0)) := by
  have hl : i < U.length := by rw [h.up.len]; exact hi
  have hset : ∀ j, (U.set i (v : Int))[j]? = if i = j then some (v : Int) else U[j]? := fun j => set_getI hl
  have hup : UpI N E (U.set i (v : Int)) (if r = 0 then i + 1 else N) := by
    have q := h.up.set hi (by split <;> omega) hn
    by_cases hr : r = 0
    · rw [if_pos hr] at q ⊢
      rw [show max i (i + 1) = i + 1 by omega] at q
      exact q
    · rw [if_neg hr] at q ⊢
      rw [show max N (i + 1) = N by omega] at q
      exact q
  have hnew : 0 < i → ¬ WR E v r i := fun h0 hw => by
    by_cases hr : r = 0
    · subst hr
      cases hw
      omega
    · obtain ⟨r', rfl⟩ : ∃ r', r = r' + 1 := ⟨r - 1, by omega⟩
      have hU := h.up
      rw [if_neg hr] at hU hn
      exact nr_on hU hR (h.old (by omega)) h0 (hn.hi rfl h0) hw
  refine ⟨hup, fun hr m u h0 hm hu => ?_, fun m u h0 hm hu => ?_, fun hch => ?_, by omega⟩
  · rw [hset] at hu
    by_cases e : i = m
    · subst e
      rw [if_pos rfl] at hu
      injection hu with hu
      have : v = u := by omega
      subst this
      exact fun hw => hnew h0 (hw.mono (by omega))
    · rw [if_neg e] at hu; exact h.old hr m u h0 hm hu
  · rw [hset] at hu
    by_cases e : i = m
    · subst e
      rw [if_pos rfl] at hu
      injection hu with hu
      have : v = u := by omega
      subst this
      exact hnew h0
    · rw [if_neg e] at hu; exact h.new m u h0 (by omega) hu
  · rw [Bool.or_eq_false_iff] at hch
    obtain ⟨c1, c2⟩ := hch
    have hui : U[i]? = some (v : Int) := by
      rw [List.getElem?_eq_getElem hl] at c2 ⊢
      simp at c2
      rw [c2]
    have hsame : U.set i (v : Int) = U := by
      refine List.ext_getElem? fun j => ?_
      rw [hset]
      by_cases e : i = j
      · subst e; rw [if_pos rfl, hui]
      · rw [if_neg e]
    obtain ⟨s1, s2, s3⟩ := h.same c1
    have hr : 0 < r := by
      by_cases hr : r = 0
      · exfalso
        have hu := h.up
        rw [if_pos hr] at hu
        rw [hu.un i (Nat.le_refl _) hi] at hui
        injection hui with hui
        omega
      · omega
    rw [hsame]
    refine ⟨s1, fun _ => hr, fun m h0 hm => ?_⟩
    by_cases e : i = m
    · subst e
      rw [if_neg (by omega)] at hn
      exact ⟨v, hui, hn.hi rfl h0⟩
    · exact s3 m h0 (by omega)
/-- The next round. -/
theorem RdI.next (h : RdI N E U0 U r N ch) (hN : 0 < N) : RdI N E U U (r + 1) 0 false := by
  have hup : UpI N E U N := by have q := h.up; split at q <;> exact q
  exact ⟨by rw [if_neg (by omega)]; exact hup, fun _ m u h0 hm hu => h.new m u h0 hm hu, fun m u h1 h2 => by omega, fun _ => ⟨rfl, fun h => by omega, fun m h1 h2 => by omega⟩, by omega⟩
/-- What it ends in. -/
structure UpFin (N : Nat) (E : Nat → Nat → Prop) (U : List Int) : Prop where
  up : UpI N E U N
  dm : ∀ m u : Nat, 0 < m → m < N → U[m]? = some (u : Int) → DR E u m
theorem RdI.end_ (h : RdI N E U0 U r N false) (hR : Rk N E) : UpFin N E U := by
  have hup : UpI N E U N := by have q := h.up; split at q <;> exact q
  obtain ⟨-, -, s3⟩ := h.same rfl
  have key : ∀ k, ∀ m u : Nat, 0 < m → m < N → U[m]? = some (u : Int) → ¬ WR E u k m := fun k => by
    induction k with
    | zero =>
      intro m u h0 _ _ hw
      cases hw
      omega
    | succ k ih =>
      intro m u h0 hm hu
      obtain ⟨u', e, hc⟩ := s3 m h0 hm
      rw [hu] at e
      injection e with e
      have : u = u' := by omega
      subst this
      exact nr_on hup hR ih h0 hc
  exact ⟨hup, fun m u h0 hm hu k => key k m u h0 hm hu⟩
/-- When enough rounds are over, nothing changes. -/
theorem RdI.still {K0 : Nat} (h : RdI N E U0 U r i ch) (hR : Rk N E) (hK0 : ∀ d i k, d < N → i < N → WR E d k i → WR E d K0 i) (hr : K0 + 1 ≤ r) (hi : i < N) (hn : Nr N E U (if r = 0 then i else N) i v) : U[i]? = some (v : Int) := by
  have hU := h.up
  rw [if_neg (by omega)] at hU hn
  obtain ⟨u, hu, g1, g2, g3⟩ := hU.kn i hi
  rw [hu]
  rcases Nat.eq_zero_or_pos i with rfl | h0
  · rw [g1 rfl, hn.zero rfl]
  · have hul := g2 h0
    have hvl := hn.lt h0
    have du : DR E u i := fun k hw => h.old (by omega) i u h0 hi hu ((hK0 u i k (by omega) hi hw).mono (by omega))
    have dv : DR E v i := fun k hw => by
      obtain ⟨r', rfl⟩ : ∃ r', r = r' + 1 := ⟨r - 1, by omega⟩
      exact nr_on hU hR (h.old (by omega)) h0 (hn.hi rfl h0) ((hK0 v i k (by omega) hi hw).mono (by omega))
    have h1 := DR.le hR u (by omega) (g3 v (by omega) dv)
    have h2 := DR.le hR v (by omega) (hn.lo u (by omega) du)
    rw [show u = v by omega]
end
end Go.Proofs.Ytlcmcmocjbeocaa
end
