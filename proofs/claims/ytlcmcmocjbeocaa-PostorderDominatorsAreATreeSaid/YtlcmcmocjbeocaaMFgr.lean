import Derived.Test.YtlcmcmocjbeocaaRows
import Derived.WalkKit
import Derived.ProofKit
import Derived.Deep.Draws
import Derived.Laws.CopyOwn
import Derived.Laws.AppendOwnNone
import Derived.Laws.Rows
import Derived.Deep.QuietTactic
import Derived.BigQuiet
set_option linter.unusedVariables false
set_option linter.unusedSimpArgs false
section
/-
  Plain mathematics of control flow: ways through a graph of numbers, a search with a stack, a fixpoint, blocks between leaders. Nothing here names the program.
-/
namespace Go.Proofs.Ytlcmcmocjbeocaa

/-- There is a way from 0 to a number by steps of S. -/
inductive Way (S : Nat → List Nat) : Nat → Prop
  | start : Way S 0
  | step {k j : Nat} : Way S k → j ∈ S k → Way S j

theorem count_set {R : List Bool} {j : Nat} (h : R[j]? = some false) : (R.set j true).count false + 1 = R.count false := by
  induction R generalizing j with
  | nil => simp at h
  | cons b r ih =>
    cases j with
    | zero => simp at h; subst h; simp
    | succ j =>
      have := ih (j := j) (by simpa using h)
      rw [List.set_cons_succ, List.count_cons, List.count_cons]
      omega
theorem set_get {R : List Bool} {j k : Nat} (hj : j < R.length) : (R.set j true)[k]? = if j = k then some true else R[k]? := by
  rw [List.getElem?_set]
  by_cases h : j = k
  · subst h; simp [hj]
  · simp [h]
theorem set_true {R : List Bool} {j k : Nat} (h : R[k]? = some true) : (R.set j true)[k]? = some true := by
  have hk : k < R.length := (List.getElem?_eq_some_iff.1 h).1
  rw [List.getElem?_set]
  by_cases e : j = k
  · subst e; simp [hk]
  · simp [e, h]
theorem bool_get {R : List Bool} {k : Nat} (hk : k < R.length) : R[k]? = some true ∨ R[k]? = some false := by
  rw [List.getElem?_eq_getElem hk]
  cases R[k] <;> simp

/-- What the search with a stack keeps. -/
structure SchI (S : Nat → List Nat) (n : Nat) (R : List Bool) (st : List Nat) : Prop where
  len : R.length = n
  way : ∀ k : Nat, R[k]? = some true → Way S k
  zero : R[0]? = some true
  mem : ∀ k ∈ st, R[k]? = some true
  done : ∀ k : Nat, R[k]? = some true → k ∉ st → ∀ j ∈ S k, R[j]? = some true
/-- The same, while number k's steps are looked at: the first i of them. -/
structure SchK (S : Nat → List Nat) (n : Nat) (k i : Nat) (R : List Bool) (st : List Nat) : Prop where
  len : R.length = n
  way : ∀ k : Nat, R[k]? = some true → Way S k
  zero : R[0]? = some true
  mem : ∀ k ∈ st, R[k]? = some true
  done : ∀ m : Nat, R[m]? = some true → m ∉ st → m ≠ k → ∀ j ∈ S m, R[j]? = some true
  cur : R[k]? = some true
  seen : ∀ j ∈ (S k).take i, R[j]? = some true
section
variable {S : Nat → List Nat} {n k i : Nat} {R : List Bool} {st : List Nat}
theorem SchI.start (h : 0 < n) : SchI S n ((List.replicate n false).set 0 true) [0] := by
  have hl : 0 < (List.replicate n false).length := by simpa using h
  have hw : ∀ k : Nat, ((List.replicate n false).set 0 true)[k]? = some true → k = 0 := fun k hk => by
    rw [set_get hl] at hk
    by_cases e : 0 = k
    · exact e.symm
    · rw [if_neg e, List.getElem?_replicate] at hk
      split at hk <;> simp at hk
  refine ⟨by simp, fun k hk => ?_, by rw [set_get hl, if_pos rfl], fun k hk => ?_, fun k hk hno => ?_⟩
  · rw [hw k hk]; exact .start
  · simp at hk; subst hk; rw [set_get hl, if_pos rfl]
  · rw [hw k hk] at hno; simp at hno
theorem SchI.pop (h : SchI S n R (st ++ [k])) : SchK S n k 0 R st :=
  ⟨h.len, h.way, h.zero, fun m hm => h.mem m (by simp [hm]), fun m hm hno hne => h.done m hm (by simp [hno, hne]), h.mem k (by simp), fun j hj => by simp at hj⟩
theorem SchK.old {j : Nat} (h : SchK S n k i R st) (hj : (S k)[i]? = some j) (hr : R[j]? = some true) : SchK S n k (i + 1) R st :=
  ⟨h.len, h.way, h.zero, h.mem, h.done, h.cur, fun m hm => by
    rw [List.take_add_one, hj, List.mem_append] at hm
    rcases hm with hm | hm
    · exact h.seen m hm
    · simp at hm; subst hm; exact hr⟩
theorem SchK.new {j : Nat} (h : SchK S n k i R st) (hj : (S k)[i]? = some j) (hr : R[j]? = some false) : SchK S n k (i + 1) (R.set j true) (st ++ [j]) := by
  have hl : j < R.length := (List.getElem?_eq_some_iff.1 hr).1
  refine ⟨by simpa using h.len, fun m hm => ?_, set_true h.zero, fun m hm => ?_, fun m hm hno hne x hx => ?_, set_true h.cur, fun m hm => ?_⟩
  · rw [set_get hl] at hm
    by_cases e : j = m
    · subst e; exact .step (h.way k h.cur) (List.mem_of_getElem? hj)
    · rw [if_neg e] at hm; exact h.way m hm
  · rw [List.mem_append] at hm
    rcases hm with hm | hm
    · exact set_true (h.mem m hm)
    · simp at hm; subst hm; rw [set_get hl, if_pos rfl]
  · have e : j ≠ m := fun e => hno (by simp [e])
    rw [set_get hl, if_neg e] at hm
    exact set_true (h.done m hm (fun hm' => hno (by simp [hm'])) hne x hx)
  · rw [List.take_add_one, hj, List.mem_append] at hm
    rcases hm with hm | hm
    · exact set_true (h.seen m hm)
    · simp at hm; subst hm; rw [set_get hl, if_pos rfl]
theorem SchK.over (h : SchK S n k (S k).length R st) : SchI S n R st :=
  ⟨h.len, h.way, h.zero, h.mem, fun m hm hno j hj => by
    by_cases e : m = k
    · subst e; exact h.seen j (by simpa using hj)
    · exact h.done m hm hno e j hj⟩

/-- Which numbers are reached, as Bools. -/
structure IsRch (S : Nat → List Nat) (n : Nat) (R : List Bool) : Prop where
  len : R.length = n
  iff : ∀ k : Nat, k < n → (R[k]? = some true ↔ Way S k)
theorem way_in {R : List Bool} (h0 : R[0]? = some true) (hs : ∀ k : Nat, R[k]? = some true → ∀ j ∈ S k, R[j]? = some true) {k : Nat} (h : Way S k) : R[k]? = some true := by
  induction h with
  | start => exact h0
  | step _ hj ih => exact hs _ ih _ hj
theorem SchI.end_ (h : SchI S n R []) : IsRch S n R := ⟨h.len, fun k _ => ⟨h.way k, way_in h.zero fun k hk j hj => h.done k hk (by simp) j hj⟩⟩
theorem IsRch.one {R' : List Bool} (h : IsRch S n R) (h' : IsRch S n R') : R = R' := by
  refine List.ext_getElem? fun k => ?_
  by_cases hk : k < n
  · have e1 := h.iff k hk
    have e2 := h'.iff k hk
    rcases bool_get (R := R) (by rw [h.len]; exact hk) with a | a <;> rcases bool_get (R := R') (by rw [h'.len]; exact hk) with b | b
    · rw [a, b]
    · exact absurd (e2.2 (e1.1 a)) (by rw [b]; simp)
    · exact absurd (e1.2 (e2.1 b)) (by rw [a]; simp)
    · rw [a, b]
  · rw [List.getElem?_eq_none (by rw [h.len]; omega), List.getElem?_eq_none (by rw [h'.len]; omega)]

/-- What the fixpoint keeps. -/
structure FpI (S : Nat → List Nat) (n : Nat) (R : List Bool) : Prop where
  len : R.length = n
  way : ∀ k : Nat, R[k]? = some true → Way S k
  zero : R[0]? = some true
/-- If nothing was changed: of the numbers below k, and of k's first i steps, all is closed. -/
def Shut (S : Nat → List Nat) (R : List Bool) (k i : Nat) : Prop := (∀ m : Nat, m < k → R[m]? = some true → ∀ j ∈ S m, R[j]? = some true) ∧ (R[k]? = some true → ∀ j ∈ (S k).take i, R[j]? = some true)
theorem FpI.start (h : 0 < n) : FpI S n ((List.replicate n false).set 0 true) := ⟨(SchI.start (S := S) h).len, (SchI.start h).way, (SchI.start (S := S) h).zero⟩
theorem FpI.new {j : Nat} (h : FpI S n R) (hk : R[k]? = some true) (hj : (S k)[i]? = some j) (hr : R[j]? = some false) : FpI S n (R.set j true) := by
  have hl : j < R.length := (List.getElem?_eq_some_iff.1 hr).1
  refine ⟨by simpa using h.len, fun m hm => ?_, set_true h.zero⟩
  rw [set_get hl] at hm
  by_cases e : j = m
  · subst e; exact .step (h.way k hk) (List.mem_of_getElem? hj)
  · rw [if_neg e] at hm; exact h.way m hm
theorem Shut.start : Shut S R 0 0 := ⟨fun m hm => by omega, fun _ j hj => by simp at hj⟩
theorem Shut.old {j : Nat} (h : Shut S R k i) (hj : (S k)[i]? = some j) (hr : R[j]? = some true) : Shut S R k (i + 1) := ⟨h.1, fun hk m hm => by
  rw [List.take_add_one, hj, List.mem_append] at hm
  rcases hm with hm | hm
  · exact h.2 hk m hm
  · simp at hm; subst hm; exact hr⟩
theorem Shut.full (h : Shut S R k (S k).length) : Shut S R (k + 1) 0 := ⟨fun m hm hr j hj => by
  by_cases e : m = k
  · subst e; exact h.2 hr j (by simpa using hj)
  · exact h.1 m (by omega) hr j hj, fun _ j hj => by simp at hj⟩
theorem Shut.skip (h : Shut S R k i) (hr : R[k]? = some false) : Shut S R (k + 1) 0 := ⟨fun m hm hr' j hj => by
  by_cases e : m = k
  · subst e; rw [hr] at hr'; cases hr'
  · exact h.1 m (by omega) hr' j hj, fun _ j hj => by simp at hj⟩
theorem FpI.end_ (h : FpI S n R) (hs : Shut S R n 0) : IsRch S n R := ⟨h.len, fun k _ => ⟨h.way k, way_in h.zero fun k hk j hj => hs.1 k (by have := (List.getElem?_eq_some_iff.1 hk).1; have := h.len; omega) hk j hj⟩⟩
end

/-- The block of k: from leader f to the next leader t (or the end). -/
structure IsBlk (L : Nat → Bool) (n k f t : Nat) : Prop where
  fk : f ≤ k
  kt : k < t
  tn : t ≤ n
  lf : L f = true
  lt : t = n ∨ L t = true
  no : ∀ j, f < j → j < t → L j = false
theorem IsBlk.one {L : Nat → Bool} {n k f t f' t' : Nat} (h : IsBlk L n k f t) (h' : IsBlk L n k f' t') : f = f' ∧ t = t' := by
  have e1 : f = f' := by
    rcases Nat.lt_trichotomy f f' with c | c | c
    · have := h.no f' c (by have := h'.fk; have := h.kt; omega); rw [h'.lf] at this; cases this
    · exact c
    · have := h'.no f c (by have := h.fk; have := h'.kt; omega); rw [h.lf] at this; cases this
  refine ⟨e1, ?_⟩
  rcases Nat.lt_trichotomy t t' with c | c | c
  · rcases h.lt with e | e
    · have := h'.tn; omega
    · have := h'.no t (by have := h'.fk; have := h.kt; omega) c; rw [e] at this; cases this
  · exact c
  · rcases h'.lt with e | e
    · have := h.tn; omega
    · have := h.no t' (by have := h.fk; have := h'.kt; omega) c; rw [e] at this; cases this
theorem IsBlk.same {L : Nat → Bool} {n k j f t : Nat} (h : IsBlk L n k f t) (h1 : f ≤ j) (h2 : j < t) : IsBlk L n j f t := ⟨h1, h2, h.tn, h.lf, h.lt, h.no⟩

/-- The leaders below m, ascending. -/
def leadsL (L : Nat → Bool) (m : Nat) : List Nat := (List.range m).filter L
theorem leadsL_succ (L : Nat → Bool) (m : Nat) : leadsL L (m + 1) = leadsL L m ++ (if L m = true then [m] else []) := by
  unfold leadsL
  rw [List.range_succ, List.filter_append]
  by_cases h : L m = true
  · simp [h]
  · simp [h]
theorem leadsL_mem {L : Nat → Bool} {m j : Nat} : j ∈ leadsL L m ↔ j < m ∧ L j = true := by simp [leadsL]
theorem leadsL_pw (L : Nat → Bool) (m : Nat) : (leadsL L m).Pairwise (· < ·) := List.pairwise_lt_range.filter _
/-- Leader i begins a block that ends where leader i + 1 begins, or at the end. -/
theorem leads_blk {L : Nat → Bool} {n i f : Nat} (h : (leadsL L n)[i]? = some f) : ∃ t, IsBlk L n f f t ∧ ((leadsL L n)[i + 1]? = some t ∨ ((leadsL L n)[i + 1]? = none ∧ t = n)) := by
  have hp := leadsL_pw L n
  have hm := leadsL_mem.1 (List.mem_of_getElem? h)
  obtain ⟨hi, hfi⟩ := List.getElem?_eq_some_iff.1 h
  have far : ∀ j t, (leadsL L n)[i + 1]? = some t → f < j → j < t → L j = false := fun j t ht h1 h2 => by
    cases hj : L j with
    | false => rfl
    | true =>
      exfalso
      obtain ⟨ht1, ht2⟩ := List.getElem?_eq_some_iff.1 ht
      have htn := (leadsL_mem.1 (List.mem_of_getElem? ht)).1
      obtain ⟨q, hq, hqe⟩ := List.mem_iff_getElem.1 (leadsL_mem.2 ⟨(show j < n by omega), hj⟩)
      rw [List.pairwise_iff_getElem] at hp
      rcases Nat.lt_trichotomy q i with c | c | c
      · have := hp q i hq hi c; omega
      · subst c; omega
      · rcases Nat.lt_or_ge q (i + 1) with c2 | c2
        · omega
        · rcases Nat.eq_or_lt_of_le c2 with c3 | c3
          · subst c3; omega
          · have := hp (i + 1) q ht1 hq c3; omega
  rcases hn : (leadsL L n)[i + 1]? with _ | t
  · refine ⟨n, ⟨Nat.le_refl _, hm.1, Nat.le_refl _, hm.2, .inl rfl, fun j h1 h2 => ?_⟩, .inr ⟨rfl, rfl⟩⟩
    cases hj : L j with
    | false => rfl
    | true =>
      exfalso
      obtain ⟨q, hq, hqe⟩ := List.mem_iff_getElem.1 (leadsL_mem.2 ⟨h2, hj⟩)
      have hlen := List.getElem?_eq_none_iff.1 hn
      rw [List.pairwise_iff_getElem] at hp
      rcases Nat.lt_trichotomy q i with c | c | c
      · have := hp q i hq hi c; omega
      · subst c; omega
      · omega
  · have htm := leadsL_mem.1 (List.mem_of_getElem? hn)
    obtain ⟨ht1, ht2⟩ := List.getElem?_eq_some_iff.1 hn
    have hft : f < t := by
      rw [List.pairwise_iff_getElem] at hp
      have := hp i (i + 1) hi ht1 (by omega)
      omega
    exact ⟨t, ⟨Nat.le_refl _, hft, by omega, hm.2, .inr htm.2, fun j h1 h2 => far j t hn h1 h2⟩, .inl rfl⟩
end Go.Proofs.Ytlcmcmocjbeocaa
end

section
/-
  Words for memory that the walks of this seat use: 'Sees': a slice's address yields these cells, below a given block. No condition; nothing here names the program's functions.
-/
namespace Go.Proofs.Ytlcmcmocjbeocaa
open Go.RowKit

/-- At the address A stand the cells xs, one place each, in a block below B. (An empty list asks nothing of A: nil is let in.) -/
def Sees (w : World) (B : Nat) (A : Option Addr) (xs : List Value) : Prop :=
  ∀ (k : Nat) (u : Value), xs[k]? = some u → ∃ b off, A = some ⟨b, off, none⟩ ∧ b < B ∧ w.cell? ⟨b, off + k, none⟩ = some u

section
variable {w w' : World} {B B' : Nat} {A : Option Addr} {xs ys : List Value}

theorem Sees.nil_ (w : World) (B : Nat) (A : Option Addr) : Sees w B A [] := fun k u h => by simp at h

theorem Sees.keep (h : Sees w B A xs) (hk : ∀ p : Addr, p.block < B → w'.cell? p = w.cell? p) : Sees w' B A xs := fun k u hu => by
  obtain ⟨b, off, e, hb, hc⟩ := h k u hu
  exact ⟨b, off, e, hb, (hk _ hb).trans hc⟩

theorem Sees.more (h : Sees w B A xs) (hB : B ≤ B') : Sees w B' A xs := fun k u hu => by
  obtain ⟨b, off, e, hb, hc⟩ := h k u hu
  exact ⟨b, off, e, by omega, hc⟩

theorem Sees.below (h : Sees w B A xs) (hb : Below B w w') : Sees w' B A xs := h.keep fun _ hp => hb.cell hp
theorem Sees.draws (h : Sees w B A xs) (n : Nat) : Sees (w.drewN n) B A xs := h
theorem Sees.draw (h : Sees w B A xs) : Sees w.drew B A xs := h
theorem Sees.undraws {n : Nat} (h : Sees (w.drewN n) B A xs) : Sees w B A xs := h
theorem Sees.alloc (h : Sees w B A xs) (hB : B ≤ w.heap.size) (o : Obj) : Sees (w.alloc o) B A xs := h.keep fun p hp => World.cell?_alloc_lt w o p (by omega)

/-- A list that begins as this one does. -/
theorem Sees.part (h : Sees w B A xs) (hp : ∀ (k : Nat) (u : Value), ys[k]? = some u → xs[k]? = some u) : Sees w B A ys := fun k u hu => h k u (hp k u hu)
theorem Sees.take (h : Sees w B A xs) (n : Nat) : Sees w B A (xs.take n) := h.part fun k u hu => by
  rw [List.getElem?_take] at hu
  split at hu <;> simp_all
theorem Sees.left (h : Sees w B A (xs ++ ys)) : Sees w B A xs := h.part fun k u hu => by
  have hk : k < xs.length := by
    rcases Nat.lt_or_ge k xs.length with h1 | h1
    · exact h1
    · rw [List.getElem?_eq_none h1] at hu; simp at hu
  rw [List.getElem?_append_left hk]; exact hu

/-- From place k on: 's[k:]' with a place left behind it. -/
theorem Sees.drop (h : Sees w B A xs) (k : Nat) : Sees w B (A.map (·.add k)) (xs.drop k) := fun j u hu => by
  rw [List.getElem?_drop] at hu
  obtain ⟨b, off, e, hb, hc⟩ := h _ u hu
  refine ⟨b, off + k, ?_, hb, ?_⟩
  · subst e
    simp only [Option.map_some, Addr.add]
    split <;> simp_all
  · rw [Nat.add_assoc]; exact hc

/-- A row of the call's own. -/
theorem Sees.own {base : Nat} {e : TypeId} {n c : Nat} (h : w.ownsRow base e 1 (.slice A n c) n xs) : Sees w w.heap.size A xs := fun k u hu => by
  have hl := h.1
  have hk : k < xs.length := by
    rcases Nat.lt_or_ge k xs.length with h1 | h1
    · exact h1
    · rw [List.getElem?_eq_none h1] at hu; simp at hu
  rcases h.2 with ⟨he, h0⟩ | ⟨g, cap, cur, he, hg, hh, _⟩
  · omega
  · have hA : A = some ⟨g, 0, none⟩ := by injection he
    subst hA
    have hlt : g < w.heap.size := by
      rcases Nat.lt_or_ge g w.heap.size with h1 | h1
      · exact h1
      · rw [Array.getElem?_eq_none h1] at hh; simp at hh
    refine ⟨g, 0, rfl, hlt, ?_⟩
    have := h.cells (g := g) rfl k u hu
    rw [Nat.zero_add]
    simpa [Addr.add] using (by
      have e2 : (⟨g, 0, none⟩ : Addr).add k = ⟨g, k, none⟩ := by
        unfold Addr.add
        split <;> simp_all
      rw [← e2]; exact this)
end

/-- Bytes as cells. -/
def cellsU8 (zs : List Int) : List Value := zs.map (Value.int .u8)

theorem get_u8 {zs : List Int} {k : Nat} (h : k < zs.length) : (cellsU8 zs)[k]? = some (.int .u8 (zs.getD k 0)) := by
  simp [cellsU8, List.getElem?_map, List.getElem?_eq_getElem h, List.getD_eq_getElem?_getD]

/-- The byte at place k, and where it stands. -/
theorem byte_at {w : World} {B : Nat} {A : Option Addr} {zs : List Int} {k : Nat} (h : Sees w B A (cellsU8 zs)) (hk : k < zs.length) (hz : ∀ z ∈ zs, 0 ≤ z ∧ z ≤ 255) :
    ∃ b off z, A = some ⟨b, off, none⟩ ∧ b < B ∧ w.cell? ⟨b, off + k, none⟩ = some (.int .u8 z) ∧ 0 ≤ z ∧ z ≤ 255 ∧ Hid (zs[k]? = some z) := by
  obtain ⟨b, off, e, hb, hc⟩ := h k (.int .u8 zs[k]) (by simp [cellsU8, List.getElem?_map, List.getElem?_eq_getElem hk])
  have hz' := hz zs[k] (List.getElem_mem hk)
  exact ⟨b, off, zs[k], e, hb, hc, hz'.1, hz'.2, List.getElem?_eq_getElem hk⟩
theorem take_more {zs : List Int} {k : Nat} {z : Int} (h : zs[k]? = some z) : zs.take (k + 1) = zs.take k ++ [z] := by
  rw [List.take_add_one, h]; rfl

/-- A fact kept from the walk. -/
theorem hide {p : Prop} (h : p) : Hid p := h

theorem ret_int {k : IntKind} {a b : Int} (h : a = b) : Ending.returned (.int k a) = .returned (.int k b) := by rw [h]
end Go.Proofs.Ytlcmcmocjbeocaa
end

section
/-
  Rows that the call itself made: kept over what is 'Below' them; an append whose source is told by 'Sees' (nil let in); a row made and filled by copy. No function of the program is named here.
-/
namespace Go.Proofs.Ytlcmcmocjbeocaa
open Go.RowKit

section
variable {w w' : World} {base : Nat} {e : TypeId} {size n : Nat} {v : Value} {xs : List Value}

theorem own_below (h : w.ownsRow base e size v n xs) (hb : Below w.heap.size w w') : w'.ownsRow base e size v n xs := by
  refine ⟨h.1, ?_⟩
  rcases h.2 with h2 | ⟨g, cap, cur, hv, hg, hh, hr⟩
  · exact .inl h2
  · refine .inr ⟨g, cap, cur, hv, hg, ?_, hr⟩
    have hlt : g < w.heap.size := by
      rcases Nat.lt_or_ge g w.heap.size with h1 | h1
      · exact h1
      · rw [Array.getElem?_eq_none h1] at hh; simp at hh
    rw [hb.block g hlt]; exact hh
theorem own_draws (h : w.ownsRow base e size v n xs) (k : Nat) : (w.drewN k).ownsRow base e size v n xs := h
theorem below_draws {B : Nat} {a : World} (h : Below B a w) (k : Nat) : Below B a (w.drewN k) := ⟨h.os, h.tape, h.output, h.size, h.block⟩
/-- The form of an owned row's value. -/
theorem own_form (h : w.ownsRow base e size v n xs) : ∃ A c, v = .slice A n c ∧ (A = none → c = 0) ∧ n ≤ maxLen := by
  rcases h.2 with ⟨rfl, rfl⟩ | ⟨g, cap, cur, rfl, _, _, hc, hm, _⟩
  · exact ⟨none, 0, rfl, fun _ => rfl, by omega⟩
  · exact ⟨some ⟨g, 0, none⟩, cap, rfl, fun hn => by simp at hn, by omega⟩
theorem own_block (h : w.ownsRow base e size v n xs) (hn : 0 < n) : ∃ g c, v = .slice (some ⟨g, 0, none⟩) n c ∧ base ≤ g ∧ g < w.heap.size ∧ n ≤ c ∧ c ≤ maxLen := by
  rcases h.2 with ⟨rfl, rfl⟩ | ⟨g, cap, cur, rfl, hg, hh, hc, hm, _⟩
  · omega
  · refine ⟨g, cap, rfl, hg, ?_, hc, hm⟩
    rcases Nat.lt_or_ge g w.heap.size with h1 | h1
    · exact h1
    · rw [Array.getElem?_eq_none h1] at hh; simp at hh
theorem own_len (h : w.ownsRow base e 1 v n xs) : xs.length = n := by have := h.1; omega
/-- What the caller held is as it was: an append to a row of the call's own. -/
theorem below_append {B : Nat} {a : World} (hb : Below B a w) (h : w.ownsRow base e size v n xs) (hB : B ≤ base) (hg : w.grownBy w' v.ownBlock) (hs : B ≤ w.heap.size) : Below B a w' :=
  hb.grown hg hs fun k hk => by have := (h.lt k hk).1; omega

theorem below_step {w0 w w' : World} (h : Below w0.heap.size w0 w) (h' : Below w.heap.size w w') : Below w0.heap.size w0 w' := h.trans (h'.mono h.size)
theorem one_new (w : World) (x : Value) (t : TypeId) : ∀ (j : Nat) (u : Value), [x][j]? = some u → (w.alloc (.cells #[x] t)).cell? ((⟨w.heap.size, 0, none⟩ : Addr).add j) = some u := by
  intro j u hu
  cases j with
  | zero =>
    simp at hu
    subst hu
    rw [WideShapes.add_plain, World.cell?_alloc_at _ _ _ _ rfl]
    rfl
  | succ j => simp at hu

theorem Sees.src {B : Nat} {A : Option Addr} (h : Sees w B A xs) (hp : 0 < xs.length) : ∃ ad, A = some ad ∧ ∀ (j : Nat) (u : Value), xs[j]? = some u → w.cell? (ad.add j) = some u := by
  obtain ⟨b, off, rfl, _, _⟩ := h 0 xs[0] (List.getElem?_eq_getElem hp)
  refine ⟨_, rfl, fun j u hu => ?_⟩
  obtain ⟨b', off', he, _, hc⟩ := h j u hu
  injection he with he
  injection he with h1 h2
  subst h1 h2
  rw [WideShapes.add_plain]; exact hc
end

/-- append(v, x...), v nil or a row of the call's own, x any slice that 'Sees' tells. -/
theorem wpList_append_sees {P : Program} {w : World} {ops : Array Oper} {rest : List Oper} {o : Oper} {a : Act} {Q : Exit → Act → World → Prop} (hgd : o.guard = none) (s x : Operand) (t : TypeId)
    (ho : o.op = .call { callee := .builtin .append, args := #[s, x], argTypes := #[t, t] })
    (base : Nat) (e : TypeId) (i : TypeInfo) (z : Value) (bytes : Nat) (ht : P.underlying t = some (.slice e)) (hi : P.info? e = some i) (hz : i.zero = some z)
    (hsize : i.size = 1) (hby : i.bytes = bytes) (hzs : z.cells.size = 1)
    (v : Value) (n : Nat) (xs : List Value) (hs : a.eval s = v) (hown : w.ownsRow base e 1 v n xs)
    (B : Nat) (A : Option Addr) (m c : Nat) (news : List Value) (hx : a.eval x = .slice A m c) (hA : Hid (A = none → c = 0)) (hl : news.length = m) (hsee : Sees w B A news) (h1 : ∀ u ∈ news, u.oneCell' = true)
    (h63 : n + m ≤ maxLen) (hbytes : (n + m) * bytes ≤ 140737488355328) (hbase : base ≤ w.heap.size)
    (h : ∀ v' w', w'.ownsRow base e 1 v' (n + m) (xs ++ news) → w.grownBy w' v.ownBlock → wpList P ops Q rest (a.put o.dst v') w') : wpList P ops Q (o :: rest) a w := by
  rcases A with _ | ad
  · have hm : news = [] := by
      rcases news with _ | ⟨u, r⟩
      · rfl
      · obtain ⟨_, _, he, _⟩ := hsee 0 u rfl
        simp at he
    subst hm
    simp at hl
    subst hl
    obtain rfl := hA.out rfl
    exact wpList_append_own_none hgd s x t ho base e i 1 ht hi v n xs hs hown hx (h v w (by simpa using hown) (World.grownBy.refl w _))
  · refine wpList_append_own w hgd s x t ho base e i z 1 bytes ht hi hz hsize hby hzs (by decide) v n xs hs hown ad m c news hx (by omega) (fun j u hu => ?_) h1 h63 hbytes hbase (fun v' w' h2 h3 _ => h v' w' h2 h3)
    rcases Nat.lt_or_ge 0 news.length with hp | hp
    · obtain ⟨ad', he, hc⟩ := hsee.src hp
      injection he with he
      subst he
      exact hc j u hu
    · have : news = [] := List.eq_nil_of_length_eq_zero (by omega)
      subst this
      simp at hu

/-- A row made with room for more, and filled from its head on. -/
theorem own_filled {w : World} {base g n L : Nat} {e : TypeId} {z : Value} {cs : List Value} (hn : cs.length = n) (hg : w.heap[g]? = some (.cells (splice (List.replicate (n + L) z) 0 cs).toArray e (0, 0))) (hb : base ≤ g) (hm : n + L ≤ maxLen) :
    w.ownsRow base e 1 (.slice (some ⟨g, 0, none⟩) n (n + L)) n cs := by
  subst hn
  refine ⟨by simp, .inr ⟨g, cs.length + L, _, rfl, hb, hg, by omega, hm, ?_, ?_⟩⟩
  · simp [splice]
  · simp [splice]

theorem madeCells_list (z : Value) (k : Nat) : madeCells #[z] k = (List.replicate k z).toArray := by
  rw [← toList_madeCells_one z k]
end Go.Proofs.Ytlcmcmocjbeocaa
end

section
/-
  Words for blocks that are known whole, for slices of pairs of ints, and for what a call leaves as it was. No function of the program is named here.
-/
namespace Go.Proofs.Ytlcmcmocjbeocaa
open Go.RowKit

/-- Block g is just these cells, of element type t, not frozen. -/
def Row (w : World) (g t : Nat) (cs : List Value) : Prop := w.heap[g]? = some (.cells cs.toArray t (0, 0))

section
variable {w w' : World} {g t : Nat} {cs : List Value}
theorem Row.lt (h : Row w g t cs) : g < w.heap.size := by
  rcases Nat.lt_or_ge g w.heap.size with hlt | hge
  · exact hlt
  · unfold Row at h; rw [Array.getElem?_eq_none hge] at h; cases h
theorem Row.cell (h : Row w g t cs) {k : Nat} {v : Value} (hk : cs[k]? = some v) : w.cell? ⟨g, k, none⟩ = some v := by
  rw [cell_of_row w g k _ _ (0, 0) h]
  simpa using hk
theorem Row.free (h : Row w g t cs) (k : Nat) : w.frozen? ⟨g, k, none⟩ = false := by
  unfold Row at h
  simp [World.frozen?, h]
theorem Row.new (w : World) (t : Nat) (cs : List Value) : Row (w.alloc (.cells cs.toArray t)) w.heap.size t cs := heap_alloc_new w _
theorem Row.drew (h : Row w g t cs) : Row w.drew g t cs := h
theorem Row.drewN (h : Row w g t cs) (n : Nat) : Row (w.drewN n) g t cs := h
theorem Row.alloc (h : Row w g t cs) (o : Obj) : Row (w.alloc o) g t cs := (Below.heap_alloc w o g h.lt).trans h
theorem Row.call (h : Row w g t cs) (hb : Below w.heap.size w w') : Row w' g t cs := (hb.block g h.lt).trans h
theorem Row.below {B : Nat} (h : Row w g t cs) (hb : Below B w w') (hg : g < B) : Row w' g t cs := (hb.block g hg).trans h
theorem Row.far (h : Row w g t cs) {p : Addr} (hp : g ≠ p.block) (u : Value) : Row (w.setCell p u) g t cs := (Below.heap_setCell w p u g hp).trans h
theorem Row.grown (h : Row w g t cs) {row : Option Nat} (hg : w.grownBy w' row) (hne : some g ≠ row) : Row w' g t cs := (hg.block g h.lt hne).trans h
theorem Row.at_ {g' : Nat} (h : Row w g t cs) (e : g = g') : Row w g' t cs := e ▸ h
theorem Row.set_ (h : Row w g t cs) (k : Nat) (u : Value) : Row (w.setCell ⟨g, k, none⟩ u) g t (cs.set k u) := by
  unfold Row at h ⊢
  simp [World.setCell, Array.getElem?_modify, h]
theorem Row.ne_ {g' t' : Nat} {cs' : List Value} (h : Row w g t cs) (h' : Row w g' t' cs') (hne : t ≠ t') : g ≠ g' := by
  rintro rfl
  unfold Row at h h'
  rw [h] at h'
  injection h' with h'
  injection h' with _ ht
  exact hne ht
end

theorem keep_cellB {W w1 : World} {p : Addr} {v : Value} (hb : Below W.heap.size W w1) (h : W.cell? p = some v) : w1.cell? p = some v := (hb.cell (World.block_lt_of_cell? _ _ h)).trans h
theorem below_call {w w' w'' : World} (h : Below w.heap.size w w') (hc : Below w'.heap.size w' w'') : Below w.heap.size w w'' := h.trans (hc.mono h.size)
theorem below1 (w : World) (o : Obj) : Below w.heap.size w (w.alloc o) := (Below.refl _ _).alloc (Nat.le_refl _) _
theorem below2 (w : World) (o p : Obj) : Below w.heap.size w ((w.alloc o).alloc p) := (below1 w o).alloc (by simp) _
theorem below3 (w : World) (o p q : Obj) : Below w.heap.size w (((w.alloc o).alloc p).alloc q) := (below2 w o p).alloc (by simp; omega) _

/-- The worlds in which all that lay in W lies as it did: the class in which a region that only reads, and whose callees make memory of their own alone, is walked once. -/
structure After (W : World) where
  w : World
  b : Below W.heap.size W w
instance (W : World) : Nonempty (After W) := ⟨⟨W, Below.refl _ _⟩⟩
theorem wp_region_after {P : Program} {id : Nat} {Q : Exit → Act → World → Prop} {a : Act} {W : World} {l : List Oper} (hm : P.follows .mixedOrders = true) (hB : Region.lexB .any l.toArray = true)
    (h : wpQuiet P l.toArray (fun w' => ∃ p : After W, w' = p.w) (fun a' => ∀ w', (∃ p : After W, w' = p.w) → Q .normal a' w') l a) : (Code.region id l.toArray true).wp P Q a W :=
  wp_region_quiet (C := fun w' => ∃ p : After W, w' = p.w) hm hB ⟨⟨W.drew, (Below.refl _ _).drew⟩, rfl⟩ (by simpa using h)
theorem after_of {P : Program} {f : FuncId} {args : Array Value} {W : World} {p : After W} {v : Value} (h : Calls P f args p.w fun e w' => e = .returned v ∧ Below p.w.heap.size p.w w') : Calls P f args p.w fun e w'' => e = .returned v ∧ ∃ q : After W, w'' = q.w :=
  h.mono fun _ w' ⟨he, hb⟩ => ⟨he, ⟨w', below_call p.b hb⟩, rfl⟩
theorem after_same {P : Program} {f : FuncId} {args : Array Value} {W : World} {p : After W} {v : Value} (h : Calls P f args p.w fun e w' => e = .returned v ∧ p.w = w') : Calls P f args p.w fun e w'' => e = .returned v ∧ ∃ q : After W, w'' = q.w :=
  h.mono fun _ _ ⟨he, hb⟩ => ⟨he, p, hb.symm⟩
theorem after_cell {W : World} {a : Addr} {v : Value} (h : W.cell? a = some v) (p : After W) : p.w.cell? a = some v := keep_cellB p.b h

/-- A pair of ints by value: an interval, a slot. -/
abbrev pv (o s : Int) : Value := .agg #[.int .i64 o, .int .i64 s]
/-- The cells of a list of pairs. -/
def pcells (l : List (Int × Int)) : List Value := l.flatMap fun u => [.int .i64 u.1, .int .i64 u.2]
theorem pcells_length (l : List (Int × Int)) : (pcells l).length = l.length * 2 := by
  induction l with
  | nil => rfl
  | cons u r ih => simp only [pcells, List.flatMap_cons, List.length_append, List.length_cons, List.length_nil] at ih ⊢; omega
theorem pcells_append (l m : List (Int × Int)) : pcells (l ++ m) = pcells l ++ pcells m := by simp [pcells]
theorem pcells_one (o s : Int) : pcells [(o, s)] = [.int .i64 o, .int .i64 s] := rfl
theorem pcells_at (l : List (Int × Int)) (k : Nat) (u : Int × Int) (h : l[k]? = some u) : (pcells l)[k * 2]? = some (.int .i64 u.1) ∧ (pcells l)[k * 2 + 1]? = some (.int .i64 u.2) := by
  induction l generalizing k with
  | nil => simp at h
  | cons v r ih =>
    cases k with
    | zero => simp at h; subst h; exact ⟨rfl, rfl⟩
    | succ k =>
      have h' := ih k (by simpa using h)
      have e : pcells (v :: r) = .int .i64 v.1 :: .int .i64 v.2 :: pcells r := rfl
      rw [e, show (k + 1) * 2 = k * 2 + 1 + 1 by omega, show k * 2 + 1 + 1 + 1 = (k * 2 + 1) + 1 + 1 by omega]
      simpa using h'
theorem pcells_oneCell (l : List (Int × Int)) : ∀ v ∈ pcells l, v.oneCell' = true := by
  intro v hv
  simp only [pcells, List.mem_flatMap] at hv
  obtain ⟨u, _, hv⟩ := hv
  simp at hv
  rcases hv with rfl | rfl <;> rfl
/-- The pair at place k, and where it stands. -/
theorem pair_at {w : World} {B : Nat} {A : Option Addr} {l : List (Int × Int)} {k : Nat} (h : Sees w B A (pcells l)) (hk : k < l.length) :
    ∃ b off, A = some ⟨b, off, none⟩ ∧ b < B ∧ w.cell? ⟨b, off + k * 2, none⟩ = some (.int .i64 l[k].1) ∧ w.cell? ⟨b, off + k * 2 + 1, none⟩ = some (.int .i64 l[k].2) := by
  obtain ⟨h1, h2⟩ := pcells_at l k _ (List.getElem?_eq_getElem hk)
  obtain ⟨b, off, e, hb, hc⟩ := h _ _ h1
  obtain ⟨b', off', e', _, hc'⟩ := h _ _ h2
  have he := e.symm.trans e'
  injection he with he
  injection he with e1 e2
  subst e1 e2
  exact ⟨b, off, e, hb, hc, hc'⟩
/-- A row of the call's own, whatever its elements' size. -/
theorem Sees.ownN {w : World} {base size : Nat} {e : TypeId} {A : Option Addr} {n c : Nat} {xs : List Value} (h : w.ownsRow base e size (.slice A n c) n xs) : Sees w w.heap.size A xs := fun k u hu => by
  have hk : k < xs.length := by
    rcases Nat.lt_or_ge k xs.length with h1 | h1
    · exact h1
    · rw [List.getElem?_eq_none h1] at hu; simp at hu
  have hl := h.1
  rcases h.2 with ⟨he, h0⟩ | ⟨g, cap, cur, he, hg, hh, _⟩
  · subst h0; omega
  · have hA : A = some ⟨g, 0, none⟩ := by injection he
    subst hA
    have hlt : g < w.heap.size := by
      rcases Nat.lt_or_ge g w.heap.size with h1 | h1
      · exact h1
      · rw [Array.getElem?_eq_none h1] at hh; simp at hh
    refine ⟨g, 0, rfl, hlt, ?_⟩
    have := h.cells (g := g) rfl k u hu
    rwa [WideShapes.add_plain] at this
end Go.Proofs.Ytlcmcmocjbeocaa
end
