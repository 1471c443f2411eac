import Derived.Test.YtlcmcmocjbeocaaMGdom
import Derived.Test.YtlcmcmocjbeocaaMPmath
set_option linter.unusedVariables false
set_option linter.unusedSimpArgs false
section
/-
  The order of a function's instructions as mathematics: ranks, pairs that go back, the sources of ranks, dominators. Nothing here names the program.
-/
namespace Go.Proofs.Ytlcmcmocjbeocaa

/-- Control comes from rank p to rank i. -/
def ER (S : Nat → List Nat) (O : List Nat) (p i : Nat) : Prop := ∃ x y, O[p]? = some x ∧ O[i]? = some y ∧ y ∈ S x
/-- The rank of each number, or -1. -/
structure IsRk (n : Nat) (O : List Nat) (Q : List Int) : Prop where
  len : Q.length = n
  at_ : ∀ i k : Nat, O[i]? = some k → Q[k]? = some (i : Int)
  no : ∀ k : Nat, k < n → k ∉ O → Q[k]? = some (-1)
/-- The same, when the first m are laid. -/
structure RkI (n : Nat) (O : List Nat) (m : Nat) (Q : List Int) : Prop where
  len : Q.length = n
  at_ : ∀ i k : Nat, i < m → O[i]? = some k → Q[k]? = some (i : Int)
  no : ∀ k : Nat, k < n → (∀ i : Nat, i < m → O[i]? ≠ some k) → Q[k]? = some (-1)
/-- The dominators, when the first m ranks are done. -/
structure DlI (n : Nat) (O : List Nat) (U : List Int) (m : Nat) (D : List Int) : Prop where
  len : D.length = n
  at_ : ∀ i k u x : Nat, 0 < i → i < m → O[i]? = some k → U[i]? = some (u : Int) → O[u]? = some x → D[k]? = some (x : Int)
  no : ∀ k : Nat, k < n → (∀ i : Nat, 0 < i → i < m → O[i]? ≠ some k) → D[k]? = some (-1)
section
variable {S : Nat → List Nat} {O : List Nat} {Q Q' U D : List Int} {n m d i j k p x y u : Nat}
theorem nodup_at (h : O.Nodup) (h1 : O[i]? = some k) (h2 : O[j]? = some k) : i = j := by
  obtain ⟨a, ea⟩ := List.getElem?_eq_some_iff.1 h1
  exact (List.getElem?_inj a h).1 (h1.trans h2.symm)
theorem IsOrd.at_mem (h : IsOrd S n O) (hw : Way S x) : ∃ i : Nat, O[i]? = some x := by
  obtain ⟨i, hi, e⟩ := List.mem_iff_getElem.1 ((h.way x).2 hw)
  exact ⟨i, by rw [← e]; exact List.getElem?_eq_getElem hi⟩
theorem rk_of (h : IsOrd S n O) : Rk O.length (ER S O) := by
  refine ⟨fun p i ⟨x, y, h1, h2, _⟩ => ⟨(List.getElem?_eq_some_iff.1 h1).1, (List.getElem?_eq_some_iff.1 h2).1⟩, fun i hi h0 => ?_⟩
  obtain ⟨i', y, h1, h2, h3⟩ := h.par i O[i] (List.getElem?_eq_getElem hi) h0
  exact ⟨i', h1, y, O[i], h2, List.getElem?_eq_getElem hi, h3⟩
theorem wr_wa (h : IsOrd S n O) (hw : WR (ER S O) d k i) : ∀ {x y : Nat}, O[d]? = some x → O[i]? = some y → WA S x y := by
  induction hw with
  | start h0 =>
    intro x y h1 h2
    rw [h.pos] at h2
    injection h2 with h2
    subst h2
    exact .start fun e => h0 (nodup_at h.nodup (e ▸ h1) h.pos)
  | step _ hE hne ih =>
    intro x y h1 h2
    obtain ⟨px, y', e1, e2, e3⟩ := hE
    rw [h2] at e2
    injection e2 with e2
    subst e2
    exact .step (ih h1 e1) e3 fun e => hne (nodup_at h.nodup h2 (e ▸ h1))
theorem wa_wr (h : IsOrd S n O) (hd : O[d]? = some x) (hw : WA S x y) : ∀ {i : Nat}, O[i]? = some y → ∃ k, WR (ER S O) d k i := by
  induction hw with
  | start h0 =>
    intro i hi
    have : i = 0 := nodup_at h.nodup hi h.pos
    subst this
    refine ⟨0, .start fun e => h0 ?_⟩
    subst e
    rw [h.pos] at hd
    injection hd with hd
    exact hd.symm
  | @step k' j hw hj hne ih =>
    intro i hi
    obtain ⟨p, hp⟩ := h.at_mem hw.way
    obtain ⟨k, q⟩ := ih hp
    refine ⟨k + 1, .step q ⟨k', j, hp, hi, hj⟩ fun e => hne ?_⟩
    subst e
    rw [hi] at hd
    injection hd
theorem dr_dm (h : IsOrd S n O) (hd : O[d]? = some x) (hi : O[i]? = some y) : DR (ER S O) d i ↔ Dm S x y := by
  constructor
  · refine fun hD => ⟨(h.way y).1 (List.mem_of_getElem? hi), fun hw => ?_⟩
    obtain ⟨k, q⟩ := wa_wr h hd hw hi
    exact hD k q
  · exact fun hD k hw => hD.2 (wr_wa h hw hd hi)
/-- What dominates has a smaller rank. -/
theorem dm_rank (h : IsOrd S n O) (hd : O[d]? = some x) (hi : O[i]? = some y) (hD : Dm S x y) (hne : x ≠ y) : d < i := by
  have h1 := DR.le (rk_of h) i (List.getElem?_eq_some_iff.1 hi).1 ((dr_dm h hd hi).2 hD)
  rcases Nat.lt_or_ge d i with c | c
  · exact c
  · have : d = i := by omega
    subst this
    rw [hd] at hi
    injection hi with hi
    exact absurd hi hne
theorem IsRk.one (h : IsRk n O Q) (h' : IsRk n O Q') : Q = Q' := by
  refine List.ext_getElem? fun k => ?_
  by_cases hk : k < n
  · by_cases hm : k ∈ O
    · obtain ⟨i, hi, e⟩ := List.mem_iff_getElem.1 hm
      have e' : O[i]? = some k := by rw [← e]; exact List.getElem?_eq_getElem hi
      rw [h.at_ i k e', h'.at_ i k e']
    · rw [h.no k hk hm, h'.no k hk hm]
  · rw [List.getElem?_eq_none (by rw [h.len]; omega), List.getElem?_eq_none (by rw [h'.len]; omega)]
/-- A rank, or none. -/
theorem IsRk.get (h : IsRk n O Q) (hk : k < n) : (Q[k]? = some (-1) ∧ k ∉ O) ∨ ∃ i : Nat, Q[k]? = some (i : Int) ∧ O[i]? = some k ∧ i < O.length := by
  by_cases hm : k ∈ O
  · obtain ⟨i, hi, e⟩ := List.mem_iff_getElem.1 hm
    have e' : O[i]? = some k := by rw [← e]; exact List.getElem?_eq_getElem hi
    exact .inr ⟨i, h.at_ i k e', e', hi⟩
  · exact .inl ⟨h.no k hk hm, hm⟩
theorem IsRk.eq (h : IsRk n O Q) (hk : k < n) (hQ : Q[k]? = some (i : Int)) : O[i]? = some k := by
  rcases h.get hk with ⟨e, -⟩ | ⟨i', e, e', -⟩
  · rw [hQ] at e; injection e with e; omega
  · rw [hQ] at e
    injection e with e
    have : i = i' := by omega
    subst this; exact e'
theorem RkI.start (n : Nat) (O : List Nat) : RkI n O 0 (List.replicate n (-1)) := ⟨by simp, fun i k hi => by omega, fun k hk _ => by rw [List.getElem?_replicate, if_pos hk]⟩
theorem RkI.step (h : RkI n O m Q) (hO : O.Nodup) (hk : O[m]? = some k) (hn : k < n) : RkI n O (m + 1) (Q.set k (m : Int)) := by
  have hl : k < Q.length := by rw [h.len]; exact hn
  refine ⟨by simpa using h.len, fun i k' hi he => ?_, fun k' hk' hno => ?_⟩
  · rw [set_getI hl]
    by_cases e : k = k'
    · subst e
      rw [if_pos rfl, nodup_at hO hk he]
    · rw [if_neg e]
      refine h.at_ i k' ?_ he
      by_cases c : i = m
      · subst c
        rw [hk] at he
        injection he with he
        exact absurd he e
      · omega
  · rw [set_getI hl, if_neg fun e => hno m (by omega) (by rw [hk, e])]
    exact h.no k' hk' fun i hi => hno i (by omega)
theorem RkI.end_ (h : RkI n O O.length Q) : IsRk n O Q :=
  ⟨h.len, fun i k he => h.at_ i k (List.getElem?_eq_some_iff.1 he).1 he, fun k hk hno => h.no k hk fun _ _ he => hno (List.mem_of_getElem? he)⟩
theorem DlI.start (n : Nat) (O : List Nat) (U : List Int) : DlI n O U 0 (List.replicate n (-1)) := ⟨by simp, fun i k u x _ hi => by omega, fun k hk _ => by rw [List.getElem?_replicate, if_pos hk]⟩
theorem DlI.zero (h : DlI n O U 0 D) : DlI n O U 1 D := ⟨h.len, fun i k u x h0 hi => by omega, fun k hk _ => h.no k hk fun i h0 hi => by omega⟩
theorem DlI.step (h : DlI n O U m D) (hO : O.Nodup) (h0 : 0 < m) (hk : O[m]? = some k) (hn : k < n) (hu : U[m]? = some (u : Int)) (hx : O[u]? = some x) : DlI n O U (m + 1) (D.set k (x : Int)) := by
  have hl : k < D.length := by rw [h.len]; exact hn
  refine ⟨by simpa using h.len, fun i k' u' x' h0' hi he hu' hx' => ?_, fun k' hk' hno => ?_⟩
  · rw [set_getI hl]
    by_cases e : k = k'
    · subst e
      have := nodup_at hO hk he
      subst this
      rw [hu] at hu'
      injection hu' with hu'
      have : u = u' := by omega
      subst this
      rw [hx] at hx'
      injection hx' with hx'
      rw [if_pos rfl, hx']
    · rw [if_neg e]
      refine h.at_ i k' u' x' h0' ?_ he hu' hx'
      by_cases c : i = m
      · subst c
        rw [hk] at he
        injection he with he
        exact absurd he e
      · omega
  · rw [set_getI hl, if_neg fun e => hno m h0 (by omega) (by rw [hk, e])]
    exact h.no k' hk' fun i h0' hi => hno i h0' (by omega)
theorem DlI.end_ (h : DlI n O U O.length D) (hO : IsOrd S n O) (hU : UpFin O.length (ER S O) U) : IsDoms S n D := by
  refine ⟨h.len, fun k hk hno => h.no k hk fun i h0 hi he => ?_, fun k hk h0 hw => ?_⟩
  · rcases hno with rfl | hno
    · have := nodup_at hO.nodup he hO.pos; omega
    · exact hno ((hO.way k).1 (List.mem_of_getElem? he))
  · obtain ⟨i, hi⟩ := hO.at_mem hw
    have hil := (List.getElem?_eq_some_iff.1 hi).1
    have hi0 : 0 < i := by
      rcases Nat.eq_zero_or_pos i with rfl | c
      · rw [hO.pos] at hi; injection hi with hi; exact absurd hi.symm h0
      · exact c
    obtain ⟨u, hu, -, g2, g3⟩ := hU.up.kn i hil
    have hui := g2 hi0
    have hx := List.getElem?_eq_getElem (l := O) (i := u) (by omega)
    refine ⟨O[u], h.at_ i k u _ hi0 hil hi hu hx, fun e => ?_, (dr_dm hO hx hi).1 (hU.dm i u hi0 hil hu), fun d hne hd => ?_⟩
    · rw [e] at hx
      have := nodup_at hO.nodup hx hi
      omega
    · obtain ⟨q, hq⟩ := hO.at_mem hd.way
      refine (dr_dm hO hq hx).1 (g3 q (fun e => hne ?_) ((dr_dm hO hq hi).2 hd))
      subst e
      rw [hq] at hi
      injection hi

/-- The ranks of some numbers, without those that have none. -/
def srcP (Q : List Int) (xs : List Nat) : List Nat := xs.filterMap fun j => match Q[j]? with
  | none => none
  | some z => if z = -1 then none else some z.toNat
variable {xs : List Nat} {t : Nat}
theorem srcP_none (hx : xs[t]? = some j) (hj : Q[j]? = some (-1)) : srcP Q (xs.take (t + 1)) = srcP Q (xs.take t) := by
  unfold srcP; rw [List.take_add_one, hx, List.filterMap_append]; simp [hj]
theorem srcP_some {r : Nat} (hx : xs[t]? = some j) (hj : Q[j]? = some (r : Int)) : srcP Q (xs.take (t + 1)) = srcP Q (xs.take t) ++ [r] := by
  unfold srcP; rw [List.take_add_one, hx, List.filterMap_append]; simp [hj]
theorem srcP_len (Q : List Int) (xs : List Nat) : (srcP Q xs).length ≤ xs.length := by unfold srcP; exact List.length_filterMap_le _ _
/-- The rows of sources, behind m ranks and the first t of rank m's own. -/
def frL (l : List Ins) (n : Nat) (O : List Nat) (Q : List Int) (m t : Nat) : List (List Nat) := (List.range O.length).map fun i =>
  if i < m then srcP Q (befN l n (O.getD i 0)) else if i = m then srcP Q ((befN l n (O.getD i 0)).take t) else []
variable {l : List Ins}
theorem frL_len : (frL l n O Q m t).length = O.length := by simp [frL]
theorem frL_at (h : O[i]? = some k) : (frL l n O Q m t)[i]? = some (if i < m then srcP Q (befN l n k) else if i = m then srcP Q ((befN l n k).take t) else []) := by
  have hi := (List.getElem?_eq_some_iff.1 h).1
  have e : O.getD i 0 = k := by simp [h]
  simp [frL, hi]
  have e2 : O[i] = k := by rw [List.getElem?_eq_getElem hi] at h; injection h
  rw [e2]
theorem frL_start : frL l n O Q 0 0 = List.replicate O.length [] := by
  refine List.ext_getElem? fun k => ?_
  by_cases h : k < O.length
  · rw [frL_at (List.getElem?_eq_getElem h), List.getElem?_replicate, if_pos h, if_neg (by omega)]
    split <;> simp [srcP]
  · rw [List.getElem?_eq_none (by rw [frL_len]; omega), List.getElem?_eq_none (by simp; omega)]
theorem frL_next (hm : O[m]? = some k) : frL l n O Q m (befN l n k).length = frL l n O Q (m + 1) 0 := by
  refine List.ext_getElem? fun i => ?_
  by_cases h : i < O.length
  · have hi := List.getElem?_eq_getElem h
    rw [frL_at hi, frL_at hi]
    by_cases e : i = m
    · subst e
      rw [hi] at hm
      injection hm with hm
      rw [hm, if_neg (by omega), if_pos rfl, if_pos (by omega), List.take_length]
    · by_cases c : i < m
      · rw [if_pos c, if_pos (by omega)]
      · rw [if_neg c, if_neg e, if_neg (show ¬ i < m + 1 by omega)]
        split <;> simp [srcP]
  · rw [List.getElem?_eq_none (by rw [frL_len]; omega), List.getElem?_eq_none (by rw [frL_len]; omega)]
theorem frL_row (hm : O[m]? = some k) : (frL l n O Q m t)[m]? = some (srcP Q ((befN l n k).take t)) := by rw [frL_at hm, if_neg (by omega), if_pos rfl]
theorem frL_none (hm : O[m]? = some k) (hx : (befN l n k)[t]? = some j) (hj : Q[j]? = some (-1)) : frL l n O Q m (t + 1) = frL l n O Q m t := by
  refine List.ext_getElem? fun i => ?_
  by_cases h : i < O.length
  · have hi := List.getElem?_eq_getElem h
    rw [frL_at hi, frL_at hi]
    by_cases e : i = m
    · subst e
      rw [hi] at hm
      injection hm with hm
      rw [hm, srcP_none hx hj]
    · by_cases c : i < m
      · rw [if_pos c, if_pos c]
      · rw [if_neg c, if_neg e, if_neg c, if_neg e]
  · rw [List.getElem?_eq_none (by rw [frL_len]; omega), List.getElem?_eq_none (by rw [frL_len]; omega)]
theorem frL_some {r : Nat} (hm : O[m]? = some k) (hx : (befN l n k)[t]? = some j) (hj : Q[j]? = some (r : Int)) : frL l n O Q m (t + 1) = (frL l n O Q m t).set m (srcP Q ((befN l n k).take t) ++ [r]) := by
  have hml : m < (frL l n O Q m t).length := by rw [frL_len]; exact (List.getElem?_eq_some_iff.1 hm).1
  refine List.ext_getElem? fun i => ?_
  by_cases h : i < O.length
  · have hi := List.getElem?_eq_getElem h
    rw [List.getElem?_set, frL_at hi]
    by_cases e : i = m
    · subst e
      rw [hi] at hm
      injection hm with hm
      rw [hm, srcP_some hx hj, if_neg (by omega), if_pos rfl, if_pos rfl, if_pos hml]
    · rw [if_neg (show ¬ m = i by omega), frL_at hi]
      by_cases c : i < m
      · rw [if_pos c, if_pos c]
      · rw [if_neg c, if_neg e, if_neg c, if_neg e]
  · rw [List.getElem?_eq_none (by rw [frL_len]; omega), List.getElem?_set]
    by_cases e : m = i
    · rw [frL_len] at hml; omega
    · rw [if_neg e, List.getElem?_eq_none (by rw [frL_len]; omega)]
/-- The sources of a rank. -/
theorem src_mem (hQ : IsRk n O Q) (hl : n = l.length) (hi : O[i]? = some k) : p ∈ srcP Q (befN l n k) ↔ ER (suc l) O p i := by
  unfold srcP
  rw [List.mem_filterMap]
  constructor
  · rintro ⟨j, hj, he⟩
    obtain ⟨h1, h2⟩ := mem_bef.1 hj
    rcases hQ.get h1 with ⟨e, -⟩ | ⟨r, e, e', -⟩
    · rw [e] at he; simp at he
    · rw [e] at he
      simp at he
      have : r = p := he
      subst this
      exact ⟨j, k, e', hi, h2⟩
  · rintro ⟨x, y, h1, h2, h3⟩
    rw [hi] at h2
    injection h2 with h2
    subst h2
    have hx : x < l.length := by
      rcases Nat.lt_or_ge x l.length with c | c
      · exact c
      · rw [suc_none (by omega)] at h3; simp at h3
    refine ⟨x, mem_bef.2 ⟨by omega, h3⟩, ?_⟩
    rw [hQ.at_ p x h1]
    simp

/-- The pairs that go back, of the first m numbers and the first t steps of number m. -/
def bkK (Q : List Int) (k : Nat) (xs : List Nat) : List (Nat × Nat) := (xs.filter fun j => decide ((Q[j]?).getD 0 ≤ (Q[k]?).getD 0)).map fun j => (k, j)
def bkL (S : Nat → List Nat) (Q : List Int) (m : Nat) : List (Nat × Nat) := (List.range m).flatMap fun k => if (Q[k]?).getD 0 = -1 then [] else bkK Q k (S k)
theorem bkL_zero : bkL S Q 0 = [] := rfl
theorem bkL_no (h : Q[m]? = some (-1)) : bkL S Q (m + 1) = bkL S Q m := by
  unfold bkL; rw [List.range_succ, List.flatMap_append]; simp [h]
theorem bkL_yes {r : Nat} (h : Q[m]? = some (r : Int)) : bkL S Q (m + 1) = bkL S Q m ++ bkK Q m (S m) := by
  unfold bkL; rw [List.range_succ, List.flatMap_append]; simp [h]
theorem bkK_step (hx : xs[t]? = some j) : bkK Q k (xs.take (t + 1)) = bkK Q k (xs.take t) ++ (if (Q[j]?).getD 0 ≤ (Q[k]?).getD 0 then [(k, j)] else []) := by
  unfold bkK; rw [List.take_add_one, hx, List.filter_append, List.map_append]
  by_cases h : (Q[j]?).getD 0 ≤ (Q[k]?).getD 0 <;> simp [h]
theorem bkK_len (Q : List Int) (k : Nat) (xs : List Nat) : (bkK Q k xs).length ≤ xs.length := by unfold bkK; rw [List.length_map]; exact List.length_filter_le _ _
theorem bkL_len (hS : ∀ k, (S k).length ≤ 2) (Q : List Int) (m : Nat) : (bkL S Q m).length ≤ 2 * m := by
  induction m with
  | zero => simp [bkL]
  | succ m ih =>
    unfold bkL at ih ⊢
    rw [List.range_succ, List.flatMap_append, List.length_append]
    have h1 := bkK_len Q m (S m)
    have h2 := hS m
    have h3 : ([m].flatMap fun k => if (Q[k]?).getD 0 = -1 then [] else bkK Q k (S k)).length ≤ 2 := by
      simp only [List.flatMap_cons, List.flatMap_nil, List.append_nil]
      split
      · simp
      · omega
    omega
theorem mem_bkL : (k, j) ∈ bkL S Q m ↔ k < m ∧ (Q[k]?).getD 0 ≠ -1 ∧ j ∈ S k ∧ (Q[j]?).getD 0 ≤ (Q[k]?).getD 0 := by
  unfold bkL
  rw [List.mem_flatMap]
  constructor
  · rintro ⟨k', h1, h2⟩
    split at h2
    · simp at h2
    · rename_i hne
      unfold bkK at h2
      rw [List.mem_map] at h2
      obtain ⟨j', h3, h4⟩ := h2
      injection h4 with h4 h5
      subst h4 h5
      rw [List.mem_filter] at h3
      exact ⟨List.mem_range.1 h1, hne, h3.1, of_decide_eq_true h3.2⟩
  · rintro ⟨h1, h2, h3, h4⟩
    refine ⟨k, List.mem_range.2 h1, ?_⟩
    rw [if_neg h2]
    unfold bkK
    exact List.mem_map.2 ⟨j, List.mem_filter.2 ⟨h3, decide_eq_true h4⟩, rfl⟩
end
end Go.Proofs.Ytlcmcmocjbeocaa
end
