import Derived.Test.YtidlnecgfgnllaaDoorMKit
import Derived.WalkKit
import Derived.Laws.CopyOwn
import Derived.Laws.AppendOwnNone
import Derived.Laws.Rows
import Derived.Deep.QuietTactic
import Derived.BigQuiet
import Derived.ProofKit
set_option linter.unusedVariables false
set_option linter.unusedSimpArgs false
section
/-
  Plain mathematics of control flow: ways through a graph of numbers, a search with a stack, a fixpoint, blocks between leaders. Nothing here names the program.
-/
namespace Go.Proofs.YtidlnecgfgnllaaDoor

/-- There is a way from 0 to a number by steps of S. -/
inductive Way (S : Nat → List Nat) : Nat → Prop
  | start : Way S 0
  | step {k j : Nat} : Way S k → j ∈ S k → Way S j

theorem count_set {R : List Bool} {j : Nat} (h : R[j]? = some false) : (R.set j true).count false + 1 = R.count false := by
  induction R generalizing j with
  | nil => simp at h
  | cons b r ih =>
    cases j with
    | zero => simp at h; subst h; simp
    | succ j =>
      have := ih (j := j) (by simpa using h)
      rw [List.set_cons_succ, List.count_cons, List.count_cons]
      omega
theorem set_get {R : List Bool} {j k : Nat} (hj : j < R.length) : (R.set j true)[k]? = if j = k then some true else R[k]? := by
  rw [List.getElem?_set]
  by_cases h : j = k
  · subst h; simp [hj]
  · simp [h]
theorem set_true {R : List Bool} {j k : Nat} (h : R[k]? = some true) : (R.set j true)[k]? = some true := by
  have hk : k < R.length := (List.getElem?_eq_some_iff.1 h).1
  rw [List.getElem?_set]
  by_cases e : j = k
  · subst e; simp [hk]
  · simp [e, h]
theorem bool_get {R : List Bool} {k : Nat} (hk : k < R.length) : R[k]? = some true ∨ R[k]? = some false := by
  rw [List.getElem?_eq_getElem hk]
  cases R[k] <;> simp

/-- What the search with a stack keeps. -/
structure SchI (S : Nat → List Nat) (n : Nat) (R : List Bool) (st : List Nat) : Prop where
  len : R.length = n
  way : ∀ k : Nat, R[k]? = some true → Way S k
  zero : R[0]? = some true
  mem : ∀ k ∈ st, R[k]? = some true
  done : ∀ k : Nat, R[k]? = some true → k ∉ st → ∀ j ∈ S k, R[j]? = some true
/-- The same, while number k's steps are looked at: the first i of them. -/
structure SchK (S : Nat → List Nat) (n : Nat) (k i : Nat) (R : List Bool) (st : List Nat) : Prop where
  len : R.length = n
  way : ∀ k : Nat, R[k]? = some true → Way S k
  zero : R[0]? = some true
  mem : ∀ k ∈ st, R[k]? = some true
  done : ∀ m : Nat, R[m]? = some true → m ∉ st → m ≠ k → ∀ j ∈ S m, R[j]? = some true
  cur : R[k]? = some true
  seen : ∀ j ∈ (S k).take i, R[j]? = some true
section
variable {S : Nat → List Nat} {n k i : Nat} {R : List Bool} {st : List Nat}
theorem SchI.start (h : 0 < n) : SchI S n ((List.replicate n false).set 0 true) [0] := by
  have hl : 0 < (List.replicate n false).length := by simpa using h
  have hw : ∀ k : Nat, ((List.replicate n false).set 0 true)[k]? = some true → k = 0 := fun k hk => by
    rw [set_get hl] at hk
    by_cases e : 0 = k
    · exact e.symm
    · rw [if_neg e, List.getElem?_replicate] at hk
      split at hk <;> simp at hk
  refine ⟨by simp, fun k hk => ?_, by rw [set_get hl, if_pos rfl], fun k hk => ?_, fun k hk hno => ?_⟩
  · rw [hw k hk]; exact .start
  · simp at hk; subst hk; rw [set_get hl, if_pos rfl]
  · rw [hw k hk] at hno; simp at hno
theorem SchI.pop (h : SchI S n R (st ++ [k])) : SchK S n k 0 R st :=
  ⟨h.len, h.way, h.zero, fun m hm => h.mem m (by simp [hm]), fun m hm hno hne => h.done m hm (by simp [hno, hne]), h.mem k (by simp), fun j hj => by simp at hj⟩
theorem SchK.old {j : Nat} (h : SchK S n k i R st) (hj : (S k)[i]? = some j) (hr : R[j]? = some true) : SchK S n k (i + 1) R st :=
  ⟨h.len, h.way, h.zero, h.mem, h.done, h.cur, fun m hm => by
    rw [List.take_add_one, hj, List.mem_append] at hm
    rcases hm with hm | hm
    · exact h.seen m hm
    · simp at hm; subst hm; exact hr⟩
theorem SchK.new {j : Nat} (h : SchK S n k i R st) (hj : (S k)[i]? = some j) (hr : R[j]? = some false) : SchK S n k (i + 1) (R.set j true) (st ++ [j]) := by
  have hl : j < R.length := (List.getElem?_eq_some_iff.1 hr).1
  refine ⟨by simpa using h.len, fun m hm => ?_, set_true h.zero, fun m hm => ?_, fun m hm hno hne x hx => ?_, set_true h.cur, fun m hm => ?_⟩
  · rw [set_get hl] at hm
    by_cases e : j = m
    · subst e; exact .step (h.way k h.cur) (List.mem_of_getElem? hj)
    · rw [if_neg e] at hm; exact h.way m hm
  · rw [List.mem_append] at hm
    rcases hm with hm | hm
    · exact set_true (h.mem m hm)
    · simp at hm; subst hm; rw [set_get hl, if_pos rfl]
  · have e : j ≠ m := fun e => hno (by simp [e])
    rw [set_get hl, if_neg e] at hm
    exact set_true (h.done m hm (fun hm' => hno (by simp [hm'])) hne x hx)
  · rw [List.take_add_one, hj, List.mem_append] at hm
    rcases hm with hm | hm
    · exact set_true (h.seen m hm)
    · simp at hm; subst hm; rw [set_get hl, if_pos rfl]
theorem SchK.over (h : SchK S n k (S k).length R st) : SchI S n R st :=
  ⟨h.len, h.way, h.zero, h.mem, fun m hm hno j hj => by
    by_cases e : m = k
    · subst e; exact h.seen j (by simpa using hj)
    · exact h.done m hm hno e j hj⟩

/-- Which numbers are reached, as Bools. -/
structure IsRch (S : Nat → List Nat) (n : Nat) (R : List Bool) : Prop where
  len : R.length = n
  iff : ∀ k : Nat, k < n → (R[k]? = some true ↔ Way S k)
theorem way_in {R : List Bool} (h0 : R[0]? = some true) (hs : ∀ k : Nat, R[k]? = some true → ∀ j ∈ S k, R[j]? = some true) {k : Nat} (h : Way S k) : R[k]? = some true := by
  induction h with
  | start => exact h0
  | step _ hj ih => exact hs _ ih _ hj
theorem SchI.end_ (h : SchI S n R []) : IsRch S n R := ⟨h.len, fun k _ => ⟨h.way k, way_in h.zero fun k hk j hj => h.done k hk (by simp) j hj⟩⟩
theorem IsRch.one {R' : List Bool} (h : IsRch S n R) (h' : IsRch S n R') : R = R' := by
  refine List.ext_getElem? fun k => ?_
  by_cases hk : k < n
  · have e1 := h.iff k hk
    have e2 := h'.iff k hk
    rcases bool_get (R := R) (by rw [h.len]; exact hk) with a | a <;> rcases bool_get (R := R') (by rw [h'.len]; exact hk) with b | b
    · rw [a, b]
    · exact absurd (e2.2 (e1.1 a)) (by rw [b]; simp)
    · exact absurd (e1.2 (e2.1 b)) (by rw [a]; simp)
    · rw [a, b]
  · rw [List.getElem?_eq_none (by rw [h.len]; omega), List.getElem?_eq_none (by rw [h'.len]; omega)]

/-- What the fixpoint keeps. -/
structure FpI (S : Nat → List Nat) (n : Nat) (R : List Bool) : Prop where
  len : R.length = n
  way : ∀ k : Nat, R[k]? = some true → Way S k
  zero : R[0]? = some true
/-- If nothing was changed: of the numbers below k, and of k's first i steps, all is closed. -/
def Shut (S : Nat → List Nat) (R : List Bool) (k i : Nat) : Prop := (∀ m : Nat, m < k → R[m]? = some true → ∀ j ∈ S m, R[j]? = some true) ∧ (R[k]? = some true → ∀ j ∈ (S k).take i, R[j]? = some true)
theorem FpI.start (h : 0 < n) : FpI S n ((List.replicate n false).set 0 true) := ⟨(SchI.start (S := S) h).len, (SchI.start h).way, (SchI.start (S := S) h).zero⟩
theorem FpI.new {j : Nat} (h : FpI S n R) (hk : R[k]? = some true) (hj : (S k)[i]? = some j) (hr : R[j]? = some false) : FpI S n (R.set j true) := by
  have hl : j < R.length := (List.getElem?_eq_some_iff.1 hr).1
  refine ⟨by simpa using h.len, fun m hm => ?_, set_true h.zero⟩
  rw [set_get hl] at hm
  by_cases e : j = m
  · subst e; exact .step (h.way k hk) (List.mem_of_getElem? hj)
  · rw [if_neg e] at hm; exact h.way m hm
theorem Shut.start : Shut S R 0 0 := ⟨fun m hm => by omega, fun _ j hj => by simp at hj⟩
theorem Shut.old {j : Nat} (h : Shut S R k i) (hj : (S k)[i]? = some j) (hr : R[j]? = some true) : Shut S R k (i + 1) := ⟨h.1, fun hk m hm => by
  rw [List.take_add_one, hj, List.mem_append] at hm
  rcases hm with hm | hm
  · exact h.2 hk m hm
  · simp at hm; subst hm; exact hr⟩
theorem Shut.full (h : Shut S R k (S k).length) : Shut S R (k + 1) 0 := ⟨fun m hm hr j hj => by
  by_cases e : m = k
  · subst e; exact h.2 hr j (by simpa using hj)
  · exact h.1 m (by omega) hr j hj, fun _ j hj => by simp at hj⟩
theorem Shut.skip (h : Shut S R k i) (hr : R[k]? = some false) : Shut S R (k + 1) 0 := ⟨fun m hm hr' j hj => by
  by_cases e : m = k
  · subst e; rw [hr] at hr'; cases hr'
  · exact h.1 m (by omega) hr' j hj, fun _ j hj => by simp at hj⟩
theorem FpI.end_ (h : FpI S n R) (hs : Shut S R n 0) : IsRch S n R := ⟨h.len, fun k _ => ⟨h.way k, way_in h.zero fun k hk j hj => hs.1 k (by have := (List.getElem?_eq_some_iff.1 hk).1; have := h.len; omega) hk j hj⟩⟩
end

/-- The block of k: from leader f to the next leader t (or the end). -/
structure IsBlk (L : Nat → Bool) (n k f t : Nat) : Prop where
  fk : f ≤ k
  kt : k < t
  tn : t ≤ n
  lf : L f = true
  lt : t = n ∨ L t = true
  no : ∀ j, f < j → j < t → L j = false
theorem IsBlk.one {L : Nat → Bool} {n k f t f' t' : Nat} (h : IsBlk L n k f t) (h' : IsBlk L n k f' t') : f = f' ∧ t = t' := by
  have e1 : f = f' := by
    rcases Nat.lt_trichotomy f f' with c | c | c
    · have := h.no f' c (by have := h'.fk; have := h.kt; omega); rw [h'.lf] at this; cases this
    · exact c
    · have := h'.no f c (by have := h.fk; have := h'.kt; omega); rw [h.lf] at this; cases this
  refine ⟨e1, ?_⟩
  rcases Nat.lt_trichotomy t t' with c | c | c
  · rcases h.lt with e | e
    · have := h'.tn; omega
    · have := h'.no t (by have := h'.fk; have := h.kt; omega) c; rw [e] at this; cases this
  · exact c
  · rcases h'.lt with e | e
    · have := h.tn; omega
    · have := h.no t' (by have := h.fk; have := h'.kt; omega) c; rw [e] at this; cases this
theorem IsBlk.same {L : Nat → Bool} {n k j f t : Nat} (h : IsBlk L n k f t) (h1 : f ≤ j) (h2 : j < t) : IsBlk L n j f t := ⟨h1, h2, h.tn, h.lf, h.lt, h.no⟩

/-- The leaders below m, ascending. -/
def leadsL (L : Nat → Bool) (m : Nat) : List Nat := (List.range m).filter L
theorem leadsL_succ (L : Nat → Bool) (m : Nat) : leadsL L (m + 1) = leadsL L m ++ (if L m = true then [m] else []) := by
  unfold leadsL
  rw [List.range_succ, List.filter_append]
  by_cases h : L m = true
  · simp [h]
  · simp [h]
theorem leadsL_mem {L : Nat → Bool} {m j : Nat} : j ∈ leadsL L m ↔ j < m ∧ L j = true := by simp [leadsL]
theorem leadsL_pw (L : Nat → Bool) (m : Nat) : (leadsL L m).Pairwise (· < ·) := List.pairwise_lt_range.filter _
/-- Leader i begins a block that ends where leader i + 1 begins, or at the end. -/
theorem leads_blk {L : Nat → Bool} {n i f : Nat} (h : (leadsL L n)[i]? = some f) : ∃ t, IsBlk L n f f t ∧ ((leadsL L n)[i + 1]? = some t ∨ ((leadsL L n)[i + 1]? = none ∧ t = n)) := by
  have hp := leadsL_pw L n
  have hm := leadsL_mem.1 (List.mem_of_getElem? h)
  obtain ⟨hi, hfi⟩ := List.getElem?_eq_some_iff.1 h
  have far : ∀ j t, (leadsL L n)[i + 1]? = some t → f < j → j < t → L j = false := fun j t ht h1 h2 => by
    cases hj : L j with
    | false => rfl
    | true =>
      exfalso
      obtain ⟨ht1, ht2⟩ := List.getElem?_eq_some_iff.1 ht
      have htn := (leadsL_mem.1 (List.mem_of_getElem? ht)).1
      obtain ⟨q, hq, hqe⟩ := List.mem_iff_getElem.1 (leadsL_mem.2 ⟨(show j < n by omega), hj⟩)
      rw [List.pairwise_iff_getElem] at hp
      rcases Nat.lt_trichotomy q i with c | c | c
      · have := hp q i hq hi c; omega
      · subst c; omega
      · rcases Nat.lt_or_ge q (i + 1) with c2 | c2
        · omega
        · rcases Nat.eq_or_lt_of_le c2 with c3 | c3
          · subst c3; omega
          · have := hp (i + 1) q ht1 hq c3; omega
  rcases hn : (leadsL L n)[i + 1]? with _ | t
  · refine ⟨n, ⟨Nat.le_refl _, hm.1, Nat.le_refl _, hm.2, .inl rfl, fun j h1 h2 => ?_⟩, .inr ⟨rfl, rfl⟩⟩
    cases hj : L j with
    | false => rfl
    | true =>
      exfalso
      obtain ⟨q, hq, hqe⟩ := List.mem_iff_getElem.1 (leadsL_mem.2 ⟨h2, hj⟩)
      have hlen := List.getElem?_eq_none_iff.1 hn
      rw [List.pairwise_iff_getElem] at hp
      rcases Nat.lt_trichotomy q i with c | c | c
      · have := hp q i hq hi c; omega
      · subst c; omega
      · omega
  · have htm := leadsL_mem.1 (List.mem_of_getElem? hn)
    obtain ⟨ht1, ht2⟩ := List.getElem?_eq_some_iff.1 hn
    have hft : f < t := by
      rw [List.pairwise_iff_getElem] at hp
      have := hp i (i + 1) hi ht1 (by omega)
      omega
    exact ⟨t, ⟨Nat.le_refl _, hft, by omega, hm.2, .inr htm.2, fun j h1 h2 => far j t hn h1 h2⟩, .inl rfl⟩
end Go.Proofs.YtidlnecgfgnllaaDoor
end

section
/-
  Rows that the call itself made: kept over what is 'Below' them; an append whose source is told by 'Sees' (nil let in); a row made and filled by copy. No function of the program is named here.
-/
namespace Go.Proofs.YtidlnecgfgnllaaDoor
open Go.RowKit

section
variable {w w' : World} {base : Nat} {e : TypeId} {size n : Nat} {v : Value} {xs : List Value}

theorem own_below (h : w.ownsRow base e size v n xs) (hb : Below w.heap.size w w') : w'.ownsRow base e size v n xs := by
  refine ⟨h.1, ?_⟩
  rcases h.2 with h2 | ⟨g, cap, cur, hv, hg, hh, hr⟩
  · exact .inl h2
  · refine .inr ⟨g, cap, cur, hv, hg, ?_, hr⟩
    have hlt : g < w.heap.size := by
      rcases Nat.lt_or_ge g w.heap.size with h1 | h1
      · exact h1
      · rw [Array.getElem?_eq_none h1] at hh; simp at hh
    rw [hb.block g hlt]; exact hh
theorem own_draws (h : w.ownsRow base e size v n xs) (k : Nat) : (w.drewN k).ownsRow base e size v n xs := h
theorem below_draws {B : Nat} {a : World} (h : Below B a w) (k : Nat) : Below B a (w.drewN k) := ⟨h.os, h.tape, h.output, h.size, h.block⟩
/-- The form of an owned row's value. -/
theorem own_form (h : w.ownsRow base e size v n xs) : ∃ A c, v = .slice A n c ∧ (A = none → c = 0) ∧ n ≤ maxLen := by
  rcases h.2 with ⟨rfl, rfl⟩ | ⟨g, cap, cur, rfl, _, _, hc, hm, _⟩
  · exact ⟨none, 0, rfl, fun _ => rfl, by omega⟩
  · exact ⟨some ⟨g, 0, none⟩, cap, rfl, fun hn => by simp at hn, by omega⟩
theorem own_block (h : w.ownsRow base e size v n xs) (hn : 0 < n) : ∃ g c, v = .slice (some ⟨g, 0, none⟩) n c ∧ base ≤ g ∧ g < w.heap.size ∧ n ≤ c ∧ c ≤ maxLen := by
  rcases h.2 with ⟨rfl, rfl⟩ | ⟨g, cap, cur, rfl, hg, hh, hc, hm, _⟩
  · omega
  · refine ⟨g, cap, rfl, hg, ?_, hc, hm⟩
    rcases Nat.lt_or_ge g w.heap.size with h1 | h1
    · exact h1
    · rw [Array.getElem?_eq_none h1] at hh; simp at hh
theorem own_len (h : w.ownsRow base e 1 v n xs) : xs.length = n := by have := h.1; omega
/-- What the caller held is as it was: an append to a row of the call's own. -/
theorem below_append {B : Nat} {a : World} (hb : Below B a w) (h : w.ownsRow base e size v n xs) (hB : B ≤ base) (hg : w.grownBy w' v.ownBlock) (hs : B ≤ w.heap.size) : Below B a w' :=
  hb.grown hg hs fun k hk => by have := (h.lt k hk).1; omega

theorem below_step {w0 w w' : World} (h : Below w0.heap.size w0 w) (h' : Below w.heap.size w w') : Below w0.heap.size w0 w' := h.trans (h'.mono h.size)
theorem one_new (w : World) (x : Value) (t : TypeId) : ∀ (j : Nat) (u : Value), [x][j]? = some u → (w.alloc (.cells #[x] t)).cell? ((⟨w.heap.size, 0, none⟩ : Addr).add j) = some u := by
  intro j u hu
  cases j with
  | zero =>
    simp at hu
    subst hu
    rw [WideShapes.add_plain, World.cell?_alloc_at _ _ _ _ rfl]
    rfl
  | succ j => simp at hu

theorem Sees.src {B : Nat} {A : Option Addr} (h : Sees w B A xs) (hp : 0 < xs.length) : ∃ ad, A = some ad ∧ ∀ (j : Nat) (u : Value), xs[j]? = some u → w.cell? (ad.add j) = some u := by
  obtain ⟨b, off, rfl, _, _⟩ := h 0 xs[0] (List.getElem?_eq_getElem hp)
  refine ⟨_, rfl, fun j u hu => ?_⟩
  obtain ⟨b', off', he, _, hc⟩ := h j u hu
  injection he with he
  injection he with h1 h2
  subst h1 h2
  rw [WideShapes.add_plain]; exact hc
end

/-- append(v, x...), v nil or a row of the call's own, x any slice that 'Sees' tells. -/
theorem wpList_append_sees {P : Program} {w : World} {ops : Array Oper} {rest : List Oper} {o : Oper} {a : Act} {Q : Exit → Act → World → Prop} (hgd : o.guard = none) (s x : Operand) (t : TypeId)
    (ho : o.op = .call { callee := .builtin .append, args := #[s, x], argTypes := #[t, t] })
    (base : Nat) (e : TypeId) (i : TypeInfo) (z : Value) (bytes : Nat) (ht : P.underlying t = some (.slice e)) (hi : P.info? e = some i) (hz : i.zero = some z)
    (hsize : i.size = 1) (hby : i.bytes = bytes) (hzs : z.cells.size = 1)
    (v : Value) (n : Nat) (xs : List Value) (hs : a.eval s = v) (hown : w.ownsRow base e 1 v n xs)
    (B : Nat) (A : Option Addr) (m c : Nat) (news : List Value) (hx : a.eval x = .slice A m c) (hA : Hid (A = none → c = 0)) (hl : news.length = m) (hsee : Sees w B A news) (h1 : ∀ u ∈ news, u.oneCell' = true)
    (h63 : n + m ≤ maxLen) (hbytes : (n + m) * bytes ≤ 140737488355328) (hbase : base ≤ w.heap.size)
    (h : ∀ v' w', w'.ownsRow base e 1 v' (n + m) (xs ++ news) → w.grownBy w' v.ownBlock → wpList P ops Q rest (a.put o.dst v') w') : wpList P ops Q (o :: rest) a w := by
  rcases A with _ | ad
  · have hm : news = [] := by
      rcases news with _ | ⟨u, r⟩
      · rfl
      · obtain ⟨_, _, he, _⟩ := hsee 0 u rfl
        simp at he
    subst hm
    simp at hl
    subst hl
    obtain rfl := hA.out rfl
    exact wpList_append_own_none hgd s x t ho base e i 1 ht hi v n xs hs hown hx (h v w (by simpa using hown) (World.grownBy.refl w _))
  · refine wpList_append_own w hgd s x t ho base e i z 1 bytes ht hi hz hsize hby hzs (by decide) v n xs hs hown ad m c news hx (by omega) (fun j u hu => ?_) h1 h63 hbytes hbase (fun v' w' h2 h3 _ => h v' w' h2 h3)
    rcases Nat.lt_or_ge 0 news.length with hp | hp
    · obtain ⟨ad', he, hc⟩ := hsee.src hp
      injection he with he
      subst he
      exact hc j u hu
    · have : news = [] := List.eq_nil_of_length_eq_zero (by omega)
      subst this
      simp at hu

/-- A row made with room for more, and filled from its head on. -/
theorem own_filled {w : World} {base g n L : Nat} {e : TypeId} {z : Value} {cs : List Value} (hn : cs.length = n) (hg : w.heap[g]? = some (.cells (splice (List.replicate (n + L) z) 0 cs).toArray e (0, 0))) (hb : base ≤ g) (hm : n + L ≤ maxLen) :
    w.ownsRow base e 1 (.slice (some ⟨g, 0, none⟩) n (n + L)) n cs := by
  subst hn
  refine ⟨by simp, .inr ⟨g, cs.length + L, _, rfl, hb, hg, by omega, hm, ?_, ?_⟩⟩
  · simp [splice]
  · simp [splice]

theorem madeCells_list (z : Value) (k : Nat) : madeCells #[z] k = (List.replicate k z).toArray := by
  rw [← toList_madeCells_one z k]
end Go.Proofs.YtidlnecgfgnllaaDoor
end

section
/-
  Words for blocks that are known whole, for slices of pairs of ints, and for what a call leaves as it was. No function of the program is named here.
-/
namespace Go.Proofs.YtidlnecgfgnllaaDoor
open Go.RowKit

/-- Block g is just these cells, of element type t, not frozen. -/
def Row (w : World) (g t : Nat) (cs : List Value) : Prop := w.heap[g]? = some (.cells cs.toArray t (0, 0))

section
variable {w w' : World} {g t : Nat} {cs : List Value}
theorem Row.lt (h : Row w g t cs) : g < w.heap.size := by
  rcases Nat.lt_or_ge g w.heap.size with hlt | hge
  · exact hlt
  · unfold Row at h; rw [Array.getElem?_eq_none hge] at h; cases h
theorem Row.cell (h : Row w g t cs) {k : Nat} {v : Value} (hk : cs[k]? = some v) : w.cell? ⟨g, k, none⟩ = some v := by
  rw [cell_of_row w g k _ _ (0, 0) h]
  simpa using hk
theorem Row.free (h : Row w g t cs) (k : Nat) : w.frozen? ⟨g, k, none⟩ = false := by
  unfold Row at h
  simp [World.frozen?, h]
theorem Row.new (w : World) (t : Nat) (cs : List Value) : Row (w.alloc (.cells cs.toArray t)) w.heap.size t cs := heap_alloc_new w _
theorem Row.drew (h : Row w g t cs) : Row w.drew g t cs := h
theorem Row.drewN (h : Row w g t cs) (n : Nat) : Row (w.drewN n) g t cs := h
theorem Row.alloc (h : Row w g t cs) (o : Obj) : Row (w.alloc o) g t cs := (Below.heap_alloc w o g h.lt).trans h
theorem Row.call (h : Row w g t cs) (hb : Below w.heap.size w w') : Row w' g t cs := (hb.block g h.lt).trans h
theorem Row.below {B : Nat} (h : Row w g t cs) (hb : Below B w w') (hg : g < B) : Row w' g t cs := (hb.block g hg).trans h
theorem Row.far (h : Row w g t cs) {p : Addr} (hp : g ≠ p.block) (u : Value) : Row (w.setCell p u) g t cs := (Below.heap_setCell w p u g hp).trans h
theorem Row.grown (h : Row w g t cs) {row : Option Nat} (hg : w.grownBy w' row) (hne : some g ≠ row) : Row w' g t cs := (hg.block g h.lt hne).trans h
theorem Row.at_ {g' : Nat} (h : Row w g t cs) (e : g = g') : Row w g' t cs := e ▸ h
theorem Row.set_ (h : Row w g t cs) (k : Nat) (u : Value) : Row (w.setCell ⟨g, k, none⟩ u) g t (cs.set k u) := by
  unfold Row at h ⊢
  simp [World.setCell, Array.getElem?_modify, h]
theorem Row.ne_ {g' t' : Nat} {cs' : List Value} (h : Row w g t cs) (h' : Row w g' t' cs') (hne : t ≠ t') : g ≠ g' := by
  rintro rfl
  unfold Row at h h'
  rw [h] at h'
  injection h' with h'
  injection h' with _ ht
  exact hne ht
end

theorem keep_cellB {W w1 : World} {p : Addr} {v : Value} (hb : Below W.heap.size W w1) (h : W.cell? p = some v) : w1.cell? p = some v := (hb.cell (World.block_lt_of_cell? _ _ h)).trans h
theorem below_call {w w' w'' : World} (h : Below w.heap.size w w') (hc : Below w'.heap.size w' w'') : Below w.heap.size w w'' := h.trans (hc.mono h.size)
theorem below1 (w : World) (o : Obj) : Below w.heap.size w (w.alloc o) := (Below.refl _ _).alloc (Nat.le_refl _) _
theorem below2 (w : World) (o p : Obj) : Below w.heap.size w ((w.alloc o).alloc p) := (below1 w o).alloc (by simp) _
theorem below3 (w : World) (o p q : Obj) : Below w.heap.size w (((w.alloc o).alloc p).alloc q) := (below2 w o p).alloc (by simp; omega) _

/-- The worlds in which all that lay in W lies as it did: the class in which a region that only reads, and whose callees make memory of their own alone, is walked once. -/
structure After (W : World) where
  w : World
  b : Below W.heap.size W w
instance (W : World) : Nonempty (After W) := ⟨⟨W, Below.refl _ _⟩⟩
theorem wp_region_after {P : Program} {id : Nat} {Q : Exit → Act → World → Prop} {a : Act} {W : World} {l : List Oper} (hm : P.follows .mixedOrders = true) (hB : Region.lexB .any l.toArray = true)
    (h : wpQuiet P l.toArray (fun w' => ∃ p : After W, w' = p.w) (fun a' => ∀ w', (∃ p : After W, w' = p.w) → Q .normal a' w') l a) : (Code.region id l.toArray true).wp P Q a W :=
  wp_region_quiet (C := fun w' => ∃ p : After W, w' = p.w) hm hB ⟨⟨W.drew, (Below.refl _ _).drew⟩, rfl⟩ (by simpa using h)
theorem after_of {P : Program} {f : FuncId} {args : Array Value} {W : World} {p : After W} {v : Value} (h : Calls P f args p.w fun e w' => e = .returned v ∧ Below p.w.heap.size p.w w') : Calls P f args p.w fun e w'' => e = .returned v ∧ ∃ q : After W, w'' = q.w :=
  h.mono fun _ w' ⟨he, hb⟩ => ⟨he, ⟨w', below_call p.b hb⟩, rfl⟩
theorem after_same {P : Program} {f : FuncId} {args : Array Value} {W : World} {p : After W} {v : Value} (h : Calls P f args p.w fun e w' => e = .returned v ∧ p.w = w') : Calls P f args p.w fun e w'' => e = .returned v ∧ ∃ q : After W, w'' = q.w :=
  h.mono fun _ _ ⟨he, hb⟩ => ⟨he, p, hb.symm⟩
theorem after_cell {W : World} {a : Addr} {v : Value} (h : W.cell? a = some v) (p : After W) : p.w.cell? a = some v := keep_cellB p.b h

/-- A pair of ints by value: an interval, a slot. -/
abbrev pv (o s : Int) : Value := .agg #[.int .i64 o, .int .i64 s]
/-- The cells of a list of pairs. -/
def pcells (l : List (Int × Int)) : List Value := l.flatMap fun u => [.int .i64 u.1, .int .i64 u.2]
theorem pcells_length (l : List (Int × Int)) : (pcells l).length = l.length * 2 := by
  induction l with
  | nil => rfl
  | cons u r ih => simp only [pcells, List.flatMap_cons, List.length_append, List.length_cons, List.length_nil] at ih ⊢; omega
theorem pcells_append (l m : List (Int × Int)) : pcells (l ++ m) = pcells l ++ pcells m := by simp [pcells]
theorem pcells_one (o s : Int) : pcells [(o, s)] = [.int .i64 o, .int .i64 s] := rfl
theorem pcells_at (l : List (Int × Int)) (k : Nat) (u : Int × Int) (h : l[k]? = some u) : (pcells l)[k * 2]? = some (.int .i64 u.1) ∧ (pcells l)[k * 2 + 1]? = some (.int .i64 u.2) := by
  induction l generalizing k with
  | nil => simp at h
  | cons v r ih =>
    cases k with
    | zero => simp at h; subst h; exact ⟨rfl, rfl⟩
    | succ k =>
      have h' := ih k (by simpa using h)
      have e : pcells (v :: r) = .int .i64 v.1 :: .int .i64 v.2 :: pcells r := rfl
      rw [e, show (k + 1) * 2 = k * 2 + 1 + 1 by omega, show k * 2 + 1 + 1 + 1 = (k * 2 + 1) + 1 + 1 by omega]
      simpa using h'
theorem pcells_oneCell (l : List (Int × Int)) : ∀ v ∈ pcells l, v.oneCell' = true := by
  intro v hv
  simp only [pcells, List.mem_flatMap] at hv
  obtain ⟨u, _, hv⟩ := hv
  simp at hv
  rcases hv with rfl | rfl <;> rfl
/-- The pair at place k, and where it stands. -/
theorem pair_at {w : World} {B : Nat} {A : Option Addr} {l : List (Int × Int)} {k : Nat} (h : Sees w B A (pcells l)) (hk : k < l.length) :
    ∃ b off, A = some ⟨b, off, none⟩ ∧ b < B ∧ w.cell? ⟨b, off + k * 2, none⟩ = some (.int .i64 l[k].1) ∧ w.cell? ⟨b, off + k * 2 + 1, none⟩ = some (.int .i64 l[k].2) := by
  obtain ⟨h1, h2⟩ := pcells_at l k _ (List.getElem?_eq_getElem hk)
  obtain ⟨b, off, e, hb, hc⟩ := h _ _ h1
  obtain ⟨b', off', e', _, hc'⟩ := h _ _ h2
  have he := e.symm.trans e'
  injection he with he
  injection he with e1 e2
  subst e1 e2
  exact ⟨b, off, e, hb, hc, hc'⟩
/-- A row of the call's own, whatever its elements' size. -/
theorem Sees.ownN {w : World} {base size : Nat} {e : TypeId} {A : Option Addr} {n c : Nat} {xs : List Value} (h : w.ownsRow base e size (.slice A n c) n xs) : Sees w w.heap.size A xs := fun k u hu => by
  have hk : k < xs.length := by
    rcases Nat.lt_or_ge k xs.length with h1 | h1
    · exact h1
    · rw [List.getElem?_eq_none h1] at hu; simp at hu
  have hl := h.1
  rcases h.2 with ⟨he, h0⟩ | ⟨g, cap, cur, he, hg, hh, _⟩
  · subst h0; omega
  · have hA : A = some ⟨g, 0, none⟩ := by injection he
    subst hA
    have hlt : g < w.heap.size := by
      rcases Nat.lt_or_ge g w.heap.size with h1 | h1
      · exact h1
      · rw [Array.getElem?_eq_none h1] at hh; simp at hh
    refine ⟨g, 0, rfl, hlt, ?_⟩
    have := h.cells (g := g) rfl k u hu
    rwa [WideShapes.add_plain] at this
end Go.Proofs.YtidlnecgfgnllaaDoor
end

section
/-
  Plain mathematics of extents: alignments, rounding up, intervals, the least offset that fits. No function of the program is named here.
-/
namespace Go.Proofs.YtidlnecgfgnllaaDoor
open Go.RowKit

/-- n is a bound. -/
def bndB (n : Int) : Bool := decide (0 ≤ n ∧ n ≤ 2147483647)
/-- n is a power of two from 1 to 2^24. -/
def powB (n : Int) : Bool := (List.range 25).any fun k => decide (n = (2 : Int) ^ k)
theorem bndB_iff {n : Int} : bndB n = true ↔ 0 ≤ n ∧ n ≤ 2147483647 := by simp [bndB]
theorem powB_iff {n : Int} : powB n = true ↔ ∃ k : Nat, k ≤ 24 ∧ n = (2 : Int) ^ k := by
  simp only [powB, List.any_eq_true, List.mem_range, decide_eq_true_eq]
  exact ⟨fun ⟨k, h, e⟩ => ⟨k, by omega, e⟩, fun ⟨k, h, e⟩ => ⟨k, by omega, e⟩⟩
theorem two_pow_b {k : Nat} (h : k ≤ 24) : (1 : Int) ≤ (2 : Int) ^ k ∧ (2 : Int) ^ k ≤ 16777216 := by
  have h1 : (2 : Nat) ^ k ≤ 2 ^ 24 := Nat.pow_le_pow_right (by omega) h
  have h2 : 1 ≤ (2 : Nat) ^ k := Nat.one_le_two_pow
  have e : ((2 : Int) ^ k) = ((2 ^ k : Nat) : Int) := by simp
  rw [e]
  omega
theorem powB_b {n : Int} (h : powB n = true) : 1 ≤ n ∧ n ≤ 16777216 := by
  obtain ⟨k, hk, rfl⟩ := powB_iff.1 h
  exact two_pow_b hk
theorem powB_out {n : Int} (h : n < 1 ∨ 16777216 < n) : powB n = false := by
  cases e : powB n with
  | false => rfl
  | true => have := powB_b e; omega

theorem ofInt_i64' (a : Nat) (ha : a < 18446744073709551616) : (BitVec.ofInt 64 (a : Int)).toNat = a := by
  rw [BitVec.ofInt_natCast, BitVec.toNat_ofNat]; exact Nat.mod_eq_of_lt (by omega)
theorem wrap_i64 (a : Int) (h0 : -9223372036854775808 ≤ a) (h1 : a ≤ 9223372036854775807) : IntKind.i64.wrap a = a := by
  simp [IntKind.wrap, IntKind.bits, IntKind.signed]; omega
theorem and_less_one (n : Int) (h0 : 1 ≤ n) (h1 : n ≤ 16777216) : bits .and .i64 n (n - 1) = (((n.toNat &&& (n.toNat - 1)) : Nat) : Int) := by
  obtain ⟨m, rfl⟩ := Int.eq_ofNat_of_zero_le (show 0 ≤ n by omega)
  rw [show ((m : Int) - 1) = ((m - 1 : Nat) : Int) by omega]
  show IntKind.i64.wrap ((BitVec.ofInt 64 (m : Int) &&& BitVec.ofInt 64 ((m - 1 : Nat) : Int)).toNat : Int) = _
  rw [BitVec.toNat_and, ofInt_i64' m (by omega), ofInt_i64' (m - 1) (by omega), Int.toNat_natCast]
  have := Nat.and_le_left (n := m) (m := m - 1)
  rw [wrap_i64 _ (by omega) (by omega)]
/-- The test of the bits. -/
theorem bits_pow (n : Int) (h0 : 1 ≤ n) (h1 : n ≤ 16777216) : (bits .and .i64 n (n - 1) == 0) = powB n := by
  rw [and_less_one n h0 h1]
  obtain ⟨m, rfl⟩ := Int.eq_ofNat_of_zero_le (show 0 ≤ n by omega)
  have hp := Nat.and_sub_one_eq_zero_iff_isPowerOfTwo (n := m) (by omega)
  rw [Int.toNat_natCast, Bool.eq_iff_iff, powB_iff, beq_iff_eq]
  constructor
  · intro h
    obtain ⟨k, hk⟩ := hp.1 (by omega)
    refine ⟨k, ?_, by rw [hk]; simp⟩
    rcases Nat.lt_or_ge 24 k with hlt | hge
    · have : (2 : Nat) ^ 25 ≤ 2 ^ k := Nat.pow_le_pow_right (by omega) hlt
      omega
    · exact hge
  · rintro ⟨k, _, hk⟩
    have e : m = 2 ^ k := by
      have : ((2 : Int) ^ k) = ((2 ^ k : Nat) : Int) := by simp
      omega
    have := hp.2 ⟨k, e⟩
    omega

/-- n rounded up to a multiple of a. -/
def upM (n a : Int) : Int := n + (-n) % a
theorem upM_dvd (n a : Int) : a ∣ upM n a := by
  refine ⟨-((-n) / a), ?_⟩
  have := Int.mul_ediv_add_emod (-n) a
  unfold upM
  rw [Int.mul_neg]
  omega
theorem upM_b (n : Int) {a : Int} (h : 0 < a) : n ≤ upM n a ∧ upM n a < n + a := by
  have h1 := Int.emod_nonneg (-n) (show a ≠ 0 by omega)
  have h2 := Int.emod_lt_of_pos (-n) h
  unfold upM
  omega
theorem mult_eq {a x y n : Int} (h : 0 < a) (hx : a ∣ x) (hy : a ∣ y) (x0 : n ≤ x) (x1 : x < n + a) (y0 : n ≤ y) (y1 : y < n + a) : x = y := by
  obtain ⟨p, rfl⟩ := hx
  obtain ⟨q, rfl⟩ := hy
  rcases Int.lt_trichotomy p q with hl | rfl | hl
  · have := Int.mul_le_mul_of_nonneg_left (show p + 1 ≤ q by omega) (Int.le_of_lt h)
    rw [Int.mul_add, Int.mul_one] at this
    omega
  · rfl
  · have := Int.mul_le_mul_of_nonneg_left (show q + 1 ≤ p by omega) (Int.le_of_lt h)
    rw [Int.mul_add, Int.mul_one] at this
    omega
theorem upM_eq {a x n : Int} (h : 0 < a) (hx : a ∣ x) (x0 : n ≤ x) (x1 : x < n + a) : x = upM n a :=
  mult_eq h hx (upM_dvd n a) x0 x1 (upM_b n h).1 (upM_b n h).2
theorem upM_least {a x n : Int} (h : 0 < a) (hx : a ∣ x) (x0 : n ≤ x) : upM n a ≤ x := by
  have := upM_b n h
  rcases Int.lt_or_le x (n + a) with h1 | h1
  · rw [upM_eq h hx x0 h1]; omega
  · omega
theorem upM_ref {n a : Int} (h : 0 < a) (hn : n % a ≠ 0) : n - n % a + a = upM n a := by
  have h1 := Int.emod_nonneg n (show a ≠ 0 by omega)
  have h2 := Int.emod_lt_of_pos n h
  refine upM_eq h ⟨n / a + 1, ?_⟩ (by omega) (by omega)
  have := Int.mul_ediv_add_emod n a
  rw [Int.mul_add, Int.mul_one]
  omega
theorem upM_zero {n a : Int} (h : 0 < a) (hn : n % a = 0) : n = upM n a :=
  upM_eq h (Int.dvd_of_emod_eq_zero hn) (Int.le_refl _) (by omega)
theorem upM_self {n a : Int} (h : 0 < a) (hn : a ∣ n) : upM n a = n := (upM_zero h (Int.emod_eq_zero_of_dvd hn)).symm
/-- The mask's bits. -/
theorem mask_mod (n : Int) (k : Nat) (hk : k ≤ 24) (_ : 0 ≤ n) (_ : n ≤ 2147483647) : bits .and .i64 (-n) ((2 : Int) ^ k - 1) = (-n) % (2 : Int) ^ k := by
  have hb := two_pow_b hk
  have hp : (1 : Nat) ≤ 2 ^ k := Nat.one_le_two_pow
  have hpe : ((2 : Int) ^ k) = ((2 ^ k : Nat) : Int) := by simp
  have e1 : (BitVec.ofInt 64 (-n)).toNat = ((-n) % 18446744073709551616).toNat := by
    rw [BitVec.toNat_ofInt]; rfl
  have e2 : (BitVec.ofInt 64 ((2 : Int) ^ k - 1)).toNat = 2 ^ k - 1 := by
    rw [show ((2 : Int) ^ k - 1) = ((2 ^ k - 1 : Nat) : Int) by rw [hpe]; omega]
    exact ofInt_i64' _ (by rw [hpe] at hb; omega)
  show IntKind.i64.wrap ((BitVec.ofInt 64 (-n) &&& BitVec.ofInt 64 ((2 : Int) ^ k - 1)).toNat : Int) = _
  rw [BitVec.toNat_and, e1, e2, Nat.and_two_pow_sub_one_eq_mod]
  have hlt := Nat.mod_lt ((-n) % 18446744073709551616).toNat (show 2 ^ k > 0 by omega)
  rw [hpe] at hb
  rw [wrap_i64 _ (by omega) (by omega), hpe, Int.natCast_emod, Int.toNat_of_nonneg (Int.emod_nonneg _ (by omega))]
  apply Int.emod_emod_of_dvd
  refine ⟨((2 ^ (64 - k) : Nat) : Int), ?_⟩
  rw [← Int.natCast_mul, ← Nat.pow_add, show k + (64 - k) = 64 by omega]
  rfl

/-- What Add gives: the sum and the error. -/
def addV (x y : Int) : Int := if bndB x && bndB y && decide (x + y ≤ 2147483647) then x + y else 0
def addE (x y : Int) : Int := if bndB x && bndB y then (if x + y ≤ 2147483647 then 0 else 9) else 4
/-- What Up gives. -/
def upV (n a : Int) : Int := if bndB n && powB a && decide (upM n a ≤ 2147483647) then upM n a else 0
def upE (n a : Int) : Int := if bndB n && powB a then (if upM n a ≤ 2147483647 then 0 else 9) else 4
theorem add_bad {x y : Int} (h : (bndB x && bndB y) = false) : addV x y = 0 ∧ addE x y = 4 := by simp [addV, addE, h]
theorem add_great {x y : Int} (hx : bndB x = true) (hy : bndB y = true) (h : 2147483647 < x + y) : addV x y = 0 ∧ addE x y = 9 := by
  simp [addV, addE, hx, hy, show ¬ x + y ≤ 2147483647 by omega]
theorem add_ok {x y : Int} (hx : bndB x = true) (hy : bndB y = true) (h : x + y ≤ 2147483647) : addV x y = x + y ∧ addE x y = 0 := by
  simp [addV, addE, hx, hy, h]
theorem up_bad {n a : Int} (h : (bndB n && powB a) = false) : upV n a = 0 ∧ upE n a = 4 := by simp [upV, upE, h]
theorem up_great {n a : Int} (hx : bndB n = true) (hy : powB a = true) (h : 2147483647 < upM n a) : upV n a = 0 ∧ upE n a = 9 := by
  simp [upV, upE, hx, hy, show ¬ upM n a ≤ 2147483647 by omega]
theorem up_ok {n a : Int} (hx : bndB n = true) (hy : powB a = true) (h : upM n a ≤ 2147483647) : upV n a = upM n a ∧ upE n a = 0 := by
  simp [upV, upE, hx, hy, h]
theorem addE_cases (x y : Int) : addE x y = 0 ∨ addE x y = 4 ∨ addE x y = 9 := by unfold addE; split <;> (try split) <;> simp
theorem addE_b (x y : Int) : 0 ≤ addE x y ∧ addE x y ≤ 9 := by rcases addE_cases x y with h | h | h <;> rw [h] <;> omega
theorem upE_cases (x y : Int) : upE x y = 0 ∨ upE x y = 4 ∨ upE x y = 9 := by unfold upE; split <;> (try split) <;> simp
theorem upE_b (x y : Int) : 0 ≤ upE x y ∧ upE x y ≤ 9 := by rcases upE_cases x y with h | h | h <;> rw [h] <;> omega
theorem addV_b (x y : Int) : 0 ≤ addV x y ∧ addV x y ≤ 2147483647 := by
  unfold addV; split
  · rename_i h
    simp [bndB] at h
    omega
  · omega
theorem upV_b (n a : Int) : 0 ≤ upV n a ∧ upV n a ≤ 2147483647 := by
  unfold upV; split
  · rename_i h
    simp [bndB] at h
    obtain ⟨⟨h1, h2⟩, h3⟩ := h
    have := (upM_b n (show 0 < a by have := powB_b h2; omega)).1
    omega
  · omega

/-- An interval is right. -/
def rightB (o s : Int) : Bool := bndB o && bndB s && decide (o + s ≤ 2147483647)
theorem rightB_iff {o s : Int} : rightB o s = true ↔ 0 ≤ o ∧ 0 ≤ s ∧ o + s ≤ 2147483647 := by
  simp [rightB, bndB]; omega
theorem rightB_add (o s : Int) : decide (addE o s = 0) = rightB o s := by
  unfold rightB addE
  cases bndB o <;> cases bndB s <;> simp
/-- Two intervals are right and have a byte in common. -/
def ovlB (o s p t : Int) : Bool := rightB o s && rightB p t && decide (0 < s) && decide (0 < t) && decide (o < p + t) && decide (p < o + s)
theorem ovlB_iff {o s p t : Int} : ovlB o s p t = true ↔ (0 ≤ o ∧ 0 ≤ s ∧ o + s ≤ 2147483647) ∧ (0 ≤ p ∧ 0 ≤ t ∧ p + t ≤ 2147483647) ∧ 0 < s ∧ 0 < t ∧ o < p + t ∧ p < o + s := by
  simp [ovlB, rightB_iff, and_assoc]
theorem ovlB_comm (o s p t : Int) : ovlB o s p t = ovlB p t o s := by
  rw [Bool.eq_iff_iff, ovlB_iff, ovlB_iff]; omega
theorem ovlB_dev {o s p t : Int} (h : rightB o s = true) (h' : rightB p t = true) : decide (max o p < min (o + s) (p + t)) = ovlB o s p t := by
  rw [Bool.eq_iff_iff, ovlB_iff, decide_eq_true_eq]
  rw [rightB_iff] at h h'
  omega
theorem ovlB_off {o s p t : Int} (h : rightB o s = false ∨ rightB p t = false) : ovlB o s p t = false := by
  rcases h with h | h <;> simp [ovlB, h]
/-- An interval is right and inside of n bytes. -/
def insB (o s n : Int) : Bool := rightB o s && decide (o + s ≤ n)

/-- The offset x fits. -/
def Fits (us : List (Int × Int)) (fr size a x : Int) : Prop := fr ≤ x ∧ a ∣ x ∧ x + size ≤ 2147483647 ∧ ∀ u ∈ us, ovlB u.1 u.2 x size = false
/-- The arguments are right. -/
def fitArgs (us : List (Int × Int)) (fr size a : Int) : Bool := bndB fr && bndB size && powB a && us.all fun u => rightB u.1 u.2
/-- v and e are what Fit gives. -/
def IsFit (us : List (Int × Int)) (fr size a v e : Int) : Prop :=
  (fitArgs us fr size a = false ∧ v = 0 ∧ e = 4) ∨
  (fitArgs us fr size a = true ∧ ((Fits us fr size a v ∧ (∀ x, Fits us fr size a x → v ≤ x) ∧ e = 0) ∨ ((∀ x, ¬ Fits us fr size a x) ∧ v = 0 ∧ e = 9)))
theorem IsFit.one {us : List (Int × Int)} {fr size a v e v' e' : Int} (h : IsFit us fr size a v e) (h' : IsFit us fr size a v' e') : v = v' ∧ e = e' := by
  rcases h with ⟨h1, rfl, rfl⟩ | ⟨h1, h⟩ <;> rcases h' with ⟨h2, rfl, rfl⟩ | ⟨h2, h'⟩
  · exact ⟨rfl, rfl⟩
  · rw [h1] at h2; cases h2
  · rw [h1] at h2; cases h2
  · rcases h with ⟨f, l, rfl⟩ | ⟨n, rfl, rfl⟩ <;> rcases h' with ⟨f', l', rfl⟩ | ⟨n', rfl, rfl⟩
    · exact ⟨Int.le_antisymm (l _ f') (l' _ f), rfl⟩
    · exact absurd f (n' _)
    · exact absurd f' (n _)
    · exact ⟨rfl, rfl⟩

section
variable {us done : List (Int × Int)} {fr size a x : Int}
/-- What one pass over the intervals, in ascending order of their offsets, keeps. -/
def Pass (us done : List (Int × Int)) (fr size a x : Int) : Prop :=
  fr ≤ x ∧ a ∣ x ∧ x ≤ 2147483647 ∧ (∀ y, Fits us fr size a y → x ≤ y) ∧ (x + size ≤ 2147483647 → ∀ u ∈ done, ovlB u.1 u.2 x size = false)
theorem Pass.start (ha : 0 < a) (h : upM fr a ≤ 2147483647) : Pass us [] fr size a (upM fr a) :=
  ⟨(upM_b fr ha).1, upM_dvd fr a, h, fun _ hy => upM_least ha hy.2.1 hy.1, fun _ u hu => by cases hu⟩
theorem Pass.none_ (ha : 0 < a) (hs : 0 ≤ size) (h : 2147483647 < upM fr a) (y : Int) : ¬ Fits us fr size a y := fun hy => by
  have := upM_least ha hy.2.1 hy.1
  have := hy.2.2.1
  omega
theorem Pass.skip {u : Int × Int} (h : Pass us done fr size a x) (hu : ovlB u.1 u.2 x size = false) : Pass us (done ++ [u]) fr size a x :=
  ⟨h.1, h.2.1, h.2.2.1, h.2.2.2.1, fun hx v hv => by
    rcases List.mem_append.1 hv with hv | hv
    · exact h.2.2.2.2 hx v hv
    · simp at hv; subst hv; exact hu⟩
/-- The end of an interval that overlaps: nothing in between fits. -/
theorem Pass.beyond {u : Int × Int} (h : Pass us done fr size a x) (ha : 0 < a) (hm : u ∈ us) (hu : ovlB u.1 u.2 x size = true) (y : Int) (hy : Fits us fr size a y) : upM (u.1 + u.2) a ≤ y := by
  have h1 := h.2.2.2.1 y hy
  have h2 := hy.2.2.2 u hm
  have h3 := hy.2.2.1
  rw [ovlB_iff] at hu
  refine upM_least ha hy.2.1 ?_
  rcases Int.lt_or_le y (u.1 + u.2) with hl | hl
  · have : ovlB u.1 u.2 y size = true := by rw [ovlB_iff]; omega
    rw [h2] at this; cases this
  · exact hl
theorem Pass.move {u : Int × Int} (h : Pass us done fr size a x) (ha : 0 < a) (hm : u ∈ us) (hu : ovlB u.1 u.2 x size = true) (hd : ∀ v ∈ done, v.1 ≤ u.1) (hx : upM (u.1 + u.2) a ≤ 2147483647) :
    Pass us (done ++ [u]) fr size a (upM (u.1 + u.2) a) := by
  have hb := upM_b (u.1 + u.2) ha
  have ho := hu
  rw [ovlB_iff] at ho
  have h0 := h.1
  refine ⟨by omega, upM_dvd _ _, hx, h.beyond ha hm hu, fun hs v hv => ?_⟩
  cases e : ovlB v.1 v.2 (upM (u.1 + u.2) a) size with
  | false => rfl
  | true =>
    rw [ovlB_iff] at e
    rcases List.mem_append.1 hv with hv | hv
    · have h1 := h.2.2.2.2 (by omega) v hv
      have h2 := hd v hv
      have : ovlB v.1 v.2 x size = true := by rw [ovlB_iff]; omega
      rw [h1] at this; cases this
    · simp at hv; subst hv; omega
theorem Pass.stuck {u : Int × Int} (h : Pass us done fr size a x) (ha : 0 < a) (hs : 0 ≤ size) (hm : u ∈ us) (hu : ovlB u.1 u.2 x size = true) (hx : 2147483647 < upM (u.1 + u.2) a) (y : Int) : ¬ Fits us fr size a y := fun hy => by
  have := h.beyond ha hm hu y hy
  have := hy.2.2.1
  omega
theorem Pass.found (h : Pass us done fr size a x) (hd : ∀ u ∈ us, u ∈ done) (hx : x + size ≤ 2147483647) : Fits us fr size a x ∧ ∀ y, Fits us fr size a y → x ≤ y :=
  ⟨⟨h.1, h.2.1, hx, fun u hu => h.2.2.2.2 hx u (hd u hu)⟩, h.2.2.2.1⟩
theorem Pass.full (h : Pass us done fr size a x) (hx : 2147483647 < x + size) (y : Int) : ¬ Fits us fr size a y := fun hy => by
  have := h.2.2.2.1 y hy
  have := hy.2.2.1
  omega

/-- The places that the reference tries. -/
def cand (us : List (Int × Int)) (fr : Int) (k : Nat) : Int := if k = 0 then fr else max fr ((us.getD (k - 1) (0, 0)).1 + (us.getD (k - 1) (0, 0)).2)
/-- Where an offset fits, it is one of the places, or the multiple below it fits too. -/
theorem cand_step (ha : 0 < a) (_ : ∀ u ∈ us, rightB u.1 u.2 = true) (hf : 0 ≤ fr) (_ : 0 ≤ size) (h : Fits us fr size a x) : (∃ k, k ≤ us.length ∧ x = upM (cand us fr k) a) ∨ Fits us fr size a (x - a) := by
  rcases Int.lt_or_le (x - a) fr with h1 | h1
  · exact .inl ⟨0, by omega, by show x = upM fr a; exact upM_eq ha h.2.1 h.1 (by omega)⟩
  · by_cases hA : ∀ u ∈ us, ovlB u.1 u.2 (x - a) size = false
    · exact .inr ⟨h1, Int.dvd_sub h.2.1 (Int.dvd_refl a), by have := h.2.2.1; omega, hA⟩
    · left
      have hA' : ∃ u, u ∈ us ∧ ovlB u.1 u.2 (x - a) size = true := by
        refine Classical.byContradiction fun hn => hA fun u hu => ?_
        cases e : ovlB u.1 u.2 (x - a) size with
        | false => rfl
        | true => exact absurd ⟨u, hu, e⟩ hn
      obtain ⟨u, hu, ho⟩ := hA'
      obtain ⟨k, hk, rfl⟩ := List.getElem_of_mem hu
      have h2 := h.2.2.2 _ hu
      have h3 := h.2.2.1
      have h4 := h.1
      rw [ovlB_iff] at ho
      have hend : us[k].1 + us[k].2 ≤ x := by
        rcases Int.lt_or_le x (us[k].1 + us[k].2) with hl | hl
        · have : ovlB us[k].1 us[k].2 x size = true := by rw [ovlB_iff]; omega
          rw [h2] at this; cases this
        · exact hl
      have hc : cand us fr (k + 1) = max fr (us[k].1 + us[k].2) := by
        simp [cand, List.getD_eq_getElem?_getD, List.getElem?_eq_getElem hk]
      refine ⟨k + 1, by omega, ?_⟩
      rw [hc]
      exact upM_eq ha h.2.1 (by omega) (by omega)
theorem cand_all (ha : 0 < a) (hr : ∀ u ∈ us, rightB u.1 u.2 = true) (hf : 0 ≤ fr) (hs : 0 ≤ size) : ∀ (n : Nat) (x : Int), (x - fr).toNat = n → Fits us fr size a x → ∃ k, k ≤ us.length ∧ upM (cand us fr k) a ≤ x ∧ Fits us fr size a (upM (cand us fr k) a) := by
  intro n
  induction n using Nat.strongRecOn with
  | _ n ih =>
    intro x hn h
    rcases cand_step ha hr hf hs h with ⟨k, hk, e⟩ | h'
    · exact ⟨k, hk, by omega, e ▸ h⟩
    · have h1 := h'.1
      obtain ⟨k, hk, hle, hF⟩ := ih (x - a - fr).toNat (by omega) (x - a) rfl h'
      exact ⟨k, hk, by omega, hF⟩

/-- What the reference's loop keeps. -/
def Best (us : List (Int × Int)) (fr size a : Int) (k : Nat) (b : Int) (f : Bool) : Prop :=
  (f = true → Fits us fr size a b) ∧ ∀ j, j < k → Fits us fr size a (upM (cand us fr j) a) → f = true ∧ b ≤ upM (cand us fr j) a
theorem Best.start : Best us fr size a 0 0 false := ⟨(fun h => by cases h), fun j hj => by omega⟩
theorem Best.skip {k : Nat} {b : Int} {f : Bool} (h : Best us fr size a k b f) (hn : ¬ Fits us fr size a (upM (cand us fr k) a)) : Best us fr size a (k + 1) b f :=
  ⟨h.1, fun j hj hF => by
    by_cases e : j = k
    · subst e; exact absurd hF hn
    · exact h.2 j (by omega) hF⟩
theorem Best.keep {k : Nat} {b : Int} {f : Bool} (h : Best us fr size a k b f) (hf : f = true) (hb : b ≤ upM (cand us fr k) a) : Best us fr size a (k + 1) b f :=
  ⟨h.1, fun j hj hF => by
    by_cases e : j = k
    · subst e; exact ⟨hf, hb⟩
    · exact h.2 j (by omega) hF⟩
theorem Best.take {k : Nat} {b : Int} {f : Bool} (h : Best us fr size a k b f) (hF : Fits us fr size a (upM (cand us fr k) a)) (hb : f = false ∨ upM (cand us fr k) a ≤ b) : Best us fr size a (k + 1) (upM (cand us fr k) a) true :=
  ⟨fun _ => hF, fun j hj hG => by
    by_cases e : j = k
    · subst e; exact ⟨rfl, Int.le_refl _⟩
    · obtain ⟨h1, h2⟩ := h.2 j (by omega) hG
      rcases hb with hb | hb
      · rw [h1] at hb; cases hb
      · exact ⟨rfl, by omega⟩⟩
theorem Best.end_ {b : Int} {f : Bool} (h : Best us fr size a (us.length + 1) b f) (ha : 0 < a) (hr : ∀ u ∈ us, rightB u.1 u.2 = true) (hf : 0 ≤ fr) (hs : 0 ≤ size) :
    (f = true → Fits us fr size a b ∧ ∀ x, Fits us fr size a x → b ≤ x) ∧ (f = false → ∀ x, ¬ Fits us fr size a x) := by
  constructor
  · intro e
    refine ⟨h.1 e, fun x hx => ?_⟩
    obtain ⟨k, hk, hle, hF⟩ := cand_all ha hr hf hs _ x rfl hx
    have := (h.2 k (by omega) hF).2
    omega
  · intro e x hx
    obtain ⟨k, hk, hle, hF⟩ := cand_all ha hr hf hs _ x rfl hx
    have := (h.2 k (by omega) hF).1
    rw [e] at this; cases this
end
end Go.Proofs.YtidlnecgfgnllaaDoor
end

section
/-
  Small words for the ends of walks. No function of the program is named here.
-/
namespace Go.Proofs.YtidlnecgfgnllaaDoor
open Go.RowKit

theorem ret_bool {a b : Bool} (h : a = b) : Ending.returned (.bool a) = .returned (.bool b) := by rw [h]
end Go.Proofs.YtidlnecgfgnllaaDoor
end

section
/-
  What a right slot is. No function of the program is named here.
-/
namespace Go.Proofs.YtidlnecgfgnllaaDoor
open Go.RowKit

theorem ret_two {a b c d : Int} (h : a = b) (h' : c = d) : Ending.returned (.tuple #[.int .i64 a, .int .i64 c]) = .returned (.tuple #[.int .i64 b, .int .i64 d]) := by rw [h, h']
/-- An int. -/
def isI (n : Int) : Prop := -9223372036854775808 ≤ n ∧ n ≤ 9223372036854775807

/-- A size of a slot. -/
def szB (n : Int) : Bool := decide (n = 1 ∨ n = 2 ∨ n = 4 ∨ n = 8 ∨ n = 16)
/-- A slot is right. -/
def slotB (s a : Int) : Bool := szB s && powB a

end Go.Proofs.YtidlnecgfgnllaaDoor
end

section
/-
  What extent.Slots and Align give, as mathematics. No function of the program is named here.
-/
namespace Go.Proofs.YtidlnecgfgnllaaDoor
open Go.RowKit

/-- The error of a list of slots. -/
def slotsE (l : List (Int × Int)) : Int := if 512 < l.length then 3 else if l.any (fun u => !slotB u.1 u.2) then 5 else 0
theorem slotsE_many {l : List (Int × Int)} (h : 512 < l.length) : slotsE l = 3 := by simp [slotsE, h]
theorem slotsE_few {l : List (Int × Int)} (h : l.length ≤ 512) : slotsE l = if l.any (fun u => !slotB u.1 u.2) then 5 else 0 := by simp only [slotsE]; rw [if_neg (by omega)]
/-- The greatest alignment of the first k slots, at least 16. -/
def alM (l : List (Int × Int)) (k : Nat) : Int := (l.take k).foldl (fun m u => max m u.2) 16
theorem alM_zero (l : List (Int × Int)) : alM l 0 = 16 := rfl
theorem alM_succ (l : List (Int × Int)) (k : Nat) (hk : k < l.length) : alM l (k + 1) = max (alM l k) l[k].2 := by
  unfold alM
  rw [List.take_add_one, List.getElem?_eq_getElem hk, List.foldl_append]
  rfl
/-- What Align gives. -/
def alignV (l : List (Int × Int)) : Int := if slotsE l = 0 then alM l l.length else 16

theorem slotsE_cases (l : List (Int × Int)) : slotsE l = 0 ∨ slotsE l = 3 ∨ slotsE l = 5 := by unfold slotsE; split <;> (try split) <;> simp

theorem any_hit {l : List (Int × Int)} {p : Int × Int → Bool} {k : Nat} (hk : k < l.length) (h : p l[k] = true) : l.any p = true := List.any_eq_true.2 ⟨l[k], List.getElem_mem hk, h⟩
theorem any_miss {l : List (Int × Int)} {p : Int × Int → Bool} (h : ∀ j (hj : j < l.length), p l[j] = false) : l.any p = false := by
  rw [List.any_eq_false]
  intro x hx
  obtain ⟨j, hj, rfl⟩ := List.getElem_of_mem hx
  rw [h j hj]
  simp

end Go.Proofs.YtidlnecgfgnllaaDoor
end
