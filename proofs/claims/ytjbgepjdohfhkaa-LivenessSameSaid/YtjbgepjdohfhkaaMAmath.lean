import Derived.Test.YtjbgepjdohfhkaaMRct
import Derived.Test.YtjbgepjdohfhkaaMPmath
set_option linter.unusedVariables false
set_option linter.unusedSimpArgs false
section
/-
  Liveness as mathematics: the equations of an annotation, repeated from empty sets; what may be read along a way; the least solution. No function of the program is named here.
-/
namespace Go.Proofs.Ytjbgepjdohfhkaa
open Go.RowKit

/-- The operands of the code are slots, of which there are M. -/
structure LvOk (l : List Ins) (M : Nat) : Prop where
  flow : FlowOk l
  use : ∀ (k : Nat) (x : Ins), l[k]? = some x → useB x.op = true → 0 ≤ x.b ∧ x.b < M
  dfn : ∀ (k : Nat) (x : Ins), l[k]? = some x → defB x.op = true → 0 ≤ x.a ∧ x.a < M
  few : M ≤ 512
/-- The sets of an annotation: one for each instruction, of slots. -/
structure LvIn (n M : Nat) (L : List (List Int)) : Prop where
  len : L.length = n
  asc : ∀ k : Nat, Asc (L.getD k [])
  lt : ∀ (k : Nat) (z : Int), z ∈ L.getD k [] → z < M
def inX (x : Ins) (zs : List Int) : List Int := inL x.op x.a x.b zs
def inK (l : List Ins) (L : List (List Int)) (j : Nat) : List Int := match l[j]? with
  | none => []
  | some x => inX x (L.getD j [])
def uniL (l : List Ins) (L : List (List Int)) (js : List Nat) : List Int := js.foldl (fun r j => unionL r (inK l L j)) []
def stepL (l : List Ins) (L : List (List Int)) : List (List Int) := (List.range l.length).map fun k => uniL l L (suc l k)
def insL (l : List Ins) (L : List (List Int)) : List (List Int) := (List.range l.length).map fun k => inK l L k
/-- Slot s may be read behind instruction k, before it is written. -/
inductive Lv (l : List Ins) : Nat → Int → Prop where
  | use {k j : Nat} {x : Ins} {s : Int} : j ∈ suc l k → l[j]? = some x → s ∈ usL x.op x.b → Lv l k s
  | on {k j : Nat} {x : Ins} {s : Int} : j ∈ suc l k → l[j]? = some x → ¬ (defB x.op = true ∧ s = x.a) → Lv l j s → Lv l k s
def itL (l : List Ins) : Nat → List (List Int)
  | 0 => List.replicate l.length []
  | t + 1 => stepL l (itL l t)
def SubL (L L' : List (List Int)) : Prop := ∀ (k : Nat) (z : Int), z ∈ L.getD k [] → z ∈ L'.getD k []
def solL (l : List Ins) (M : Nat) : List (List Int) := itL l (l.length * M)
section
variable {l : List Ins} {M k j : Nat} {z : Int} {L L' : List (List Int)} {x : Ins}
theorem LvOk.usAsc (h : LvOk l M) (hx : l[k]? = some x) : Asc (usL x.op x.b) := by
  unfold usL
  split
  · rename_i hu
    have h1 := h.use k x hx hu
    have h2 := h.few
    exact asc_one h1.1 (by omega)
  · exact Asc.nil
theorem mem_inX {o a b : Int} {zs : List Int} (h : Asc (usL o b)) : z ∈ inL o a b zs ↔ (z ∈ zs ∧ ¬ (defB o = true ∧ z = a)) ∨ z ∈ usL o b := by
  unfold inL
  rw [mem_union h, mem_outL]
theorem inK_some (hx : l[j]? = some x) (L : List (List Int)) : inK l L j = inX x (L.getD j []) := by unfold inK; rw [hx]
theorem mem_inK (h : LvOk l M) (hx : l[j]? = some x) : z ∈ inK l L j ↔ (z ∈ L.getD j [] ∧ ¬ (defB x.op = true ∧ z = x.a)) ∨ z ∈ usL x.op x.b := by
  rw [inK_some hx]
  exact mem_inX (h.usAsc hx)
theorem inX_asc (x : Ins) {zs : List Int} (h : Asc zs) : Asc (inX x zs) := inL_asc _ _ _ h
theorem inK_asc (hL : ∀ k : Nat, Asc (L.getD k [])) (j : Nat) : Asc (inK l L j) := by
  unfold inK
  split
  · exact Asc.nil
  · exact inX_asc _ (hL j)
theorem uniL_next (l : List Ins) (L : List (List Int)) (js : List Nat) (j : Nat) : uniL l L (js ++ [j]) = unionL (uniL l L js) (inK l L j) := by simp [uniL]
theorem uniL_nil (l : List Ins) (L : List (List Int)) : uniL l L [] = [] := rfl
theorem foldl_asc (js : List Nat) : ∀ r : List Int, Asc r → Asc (js.foldl (fun r j => unionL r (inK l L j)) r) := by
  induction js with
  | nil => exact fun r h => h
  | cons a t ih => exact fun r h => ih _ (unionL_asc h)
theorem uniL_asc (l : List Ins) (L : List (List Int)) (js : List Nat) : Asc (uniL l L js) := foldl_asc js [] Asc.nil
theorem mem_uniL (hL : ∀ k : Nat, Asc (L.getD k [])) (js : List Nat) : z ∈ uniL l L js ↔ ∃ j ∈ js, z ∈ inK l L j := by
  have H : ∀ (js : List Nat) (r : List Int), z ∈ js.foldl (fun r j => unionL r (inK l L j)) r ↔ z ∈ r ∨ ∃ j ∈ js, z ∈ inK l L j := by
    intro js
    induction js with
    | nil => intro r; simp
    | cons a t ih =>
      intro r
      rw [List.foldl_cons, ih, mem_union (inK_asc hL a), or_assoc]
      simp
  unfold uniL
  rw [H]
  simp
theorem stepL_len (l : List Ins) (L : List (List Int)) : (stepL l L).length = l.length := by simp [stepL]
theorem stepL_at (l : List Ins) (L : List (List Int)) (h : k < l.length) : (stepL l L)[k]? = some (uniL l L (suc l k)) := by simp [stepL, h]
theorem stepL_get (l : List Ins) (L : List (List Int)) (k : Nat) : (stepL l L).getD k [] = uniL l L (suc l k) := by
  by_cases h : k < l.length
  · rw [List.getD_eq_getElem?_getD, stepL_at l L h]; rfl
  · rw [List.getD_eq_getElem?_getD, List.getElem?_eq_none (by rw [stepL_len]; omega), suc_none h]; rfl
theorem insL_len (l : List Ins) (L : List (List Int)) : (insL l L).length = l.length := by simp [insL]
theorem insL_at (l : List Ins) (L : List (List Int)) (h : k < l.length) : (insL l L)[k]? = some (inK l L k) := by simp [insL, h]
theorem usL_mem (h : LvOk l M) (hx : l[j]? = some x) (hz : z ∈ usL x.op x.b) : 0 ≤ z ∧ z < M := by
  unfold usL at hz
  split at hz
  · rename_i hu
    simp at hz
    subst hz
    exact h.use j x hx hu
  · cases hz
theorem inK_lt (h : LvOk l M) (hL : LvIn l.length M L) (hz : z ∈ inK l L j) : z < M := by
  cases hx : l[j]? with
  | none => unfold inK at hz; rw [hx] at hz; cases hz
  | some x =>
    rw [mem_inK h hx] at hz
    rcases hz with hz | hz
    · exact hL.lt j z hz.1
    · exact (usL_mem h hx hz).2
theorem LvIn.step (h : LvOk l M) (hL : LvIn l.length M L) : LvIn l.length M (stepL l L) := by
  refine ⟨stepL_len l L, fun k => by rw [stepL_get]; exact uniL_asc _ _ _, fun k z hz => ?_⟩
  rw [stepL_get, mem_uniL hL.asc] at hz
  obtain ⟨j, -, hz⟩ := hz
  exact inK_lt h hL hz
theorem getD_rep (n k : Nat) : (List.replicate n ([] : List Int)).getD k [] = [] := by
  rw [List.getD_eq_getElem?_getD, List.getElem?_replicate]
  split <;> rfl
theorem LvIn.empty (n M : Nat) : LvIn n M (List.replicate n []) := ⟨by simp, fun k => by rw [getD_rep]; exact Asc.nil, fun k z hz => by rw [getD_rep] at hz; cases hz⟩
theorem itL_in (h : LvOk l M) : ∀ t : Nat, LvIn l.length M (itL l t)
  | 0 => LvIn.empty _ _
  | t + 1 => (itL_in h t).step h
theorem inK_mono (h : LvOk l M) (hs : SubL L L') (hz : z ∈ inK l L j) : z ∈ inK l L' j := by
  cases hx : l[j]? with
  | none => unfold inK at hz; rw [hx] at hz; cases hz
  | some x =>
    rw [mem_inK h hx] at hz ⊢
    rcases hz with hz | hz
    · exact .inl ⟨hs j z hz.1, hz.2⟩
    · exact .inr hz
theorem step_mono (h : LvOk l M) (hL : ∀ k : Nat, Asc (L.getD k [])) (hL' : ∀ k : Nat, Asc (L'.getD k [])) (hs : SubL L L') : SubL (stepL l L) (stepL l L') := by
  intro k z hz
  rw [stepL_get, mem_uniL hL] at hz
  rw [stepL_get, mem_uniL hL']
  obtain ⟨j, hj, hz⟩ := hz
  exact ⟨j, hj, inK_mono h hs hz⟩
theorem it_mono (h : LvOk l M) : ∀ t : Nat, SubL (itL l t) (itL l (t + 1))
  | 0 => fun k z hz => by rw [show itL l 0 = List.replicate l.length [] from rfl, getD_rep] at hz; cases hz
  | t + 1 => step_mono h (itL_in h t).asc (itL_in h (t + 1)).asc (it_mono h t)
theorem it_sound (h : LvOk l M) : ∀ (t k : Nat) (z : Int), z ∈ (itL l t).getD k [] → Lv l k z
  | 0, k, z, hz => by rw [show itL l 0 = List.replicate l.length [] from rfl, getD_rep] at hz; cases hz
  | t + 1, k, z, hz => by
    rw [show itL l (t + 1) = stepL l (itL l t) from rfl, stepL_get, mem_uniL (itL_in h t).asc] at hz
    obtain ⟨j, hj, hz⟩ := hz
    cases hx : l[j]? with
    | none => unfold inK at hz; rw [hx] at hz; cases hz
    | some x =>
      rw [mem_inK h hx] at hz
      rcases hz with hz | hz
      · exact .on hj hx hz.2 (it_sound h t j z hz.1)
      · exact .use hj hx hz
/-- An annotation that has all that the equations ask for has all that may be read. -/
theorem pre_all (h : LvOk l M) (hL : ∀ k : Nat, Asc (L.getD k [])) (hs : SubL (stepL l L) L) (hv : Lv l k z) : z ∈ L.getD k [] := by
  induction hv with
  | use hj hx hu =>
    refine hs _ _ ?_
    rw [stepL_get, mem_uniL hL]
    exact ⟨_, hj, (mem_inK h hx).2 (.inr hu)⟩
  | on hj hx hn _ ih =>
    refine hs _ _ ?_
    rw [stepL_get, mem_uniL hL]
    exact ⟨_, hj, (mem_inK h hx).2 (.inl ⟨ih, hn⟩)⟩
def szL (L : List (List Int)) : Nat := (L.map List.length).sum
theorem sub_nd : ∀ {b a : List Int}, a.Nodup → (∀ z ∈ a, z ∈ b) → a.length ≤ b.length
  | [], a, _, hs => by
    cases a with
    | nil => exact Nat.le_refl _
    | cons x t => have := hs x (by simp); cases this
  | y :: b, a, hn, hs => by
    by_cases hy : y ∈ a
    · have h1 := sub_nd (b := b) (a := a.erase y) (hn.erase y) (fun z hz => by
        rw [hn.mem_erase_iff] at hz
        rcases List.mem_cons.1 (hs z hz.2) with h | h
        · exact (hz.1 h).elim
        · exact h)
      rw [List.length_erase_of_mem hy] at h1
      rw [List.length_cons]
      omega
    · have h1 := sub_nd (b := b) (a := a) hn (fun z hz => by
        rcases List.mem_cons.1 (hs z hz) with h | h
        · subst h; exact (hy hz).elim
        · exact h)
      rw [List.length_cons]
      omega
theorem asc_nd {a : List Int} (ha : Asc a) : a.Nodup := ha.1.imp fun h => by omega
theorem sub_len {a b : List Int} (ha : Asc a) (hs : ∀ z ∈ a, z ∈ b) : a.length ≤ b.length := sub_nd (asc_nd ha) hs
theorem sub_eq {a b : List Int} (ha : Asc a) (hb : Asc b) (hs : ∀ z ∈ a, z ∈ b) (he : a.length = b.length) : a = b :=
  ha.ext hb fun z _ _ => ⟨hs z, fun hz => by
    refine Classical.byContradiction fun hn => ?_
    have h1 := sub_nd (b := b.erase z) (asc_nd ha) (fun y hy => (List.mem_erase_of_ne (fun e => hn (by rw [← e]; exact hy))).2 (hs y hy))
    rw [List.length_erase_of_mem hz] at h1
    have h2 := List.length_pos_of_mem hz
    omega⟩
theorem subs_sz : ∀ {L L' : List (List Int)}, L.length = L'.length → (∀ k : Nat, Asc (L.getD k [])) → (∀ k : Nat, Asc (L'.getD k [])) → SubL L L' → szL L ≤ szL L' ∧ (szL L = szL L' → L = L')
  | [], [], _, _, _, _ => ⟨Nat.le_refl _, fun _ => rfl⟩
  | [], _ :: _, h, _, _, _ => by simp at h
  | _ :: _, [], h, _, _, _ => by simp at h
  | a :: t, b :: u, h, hL, hL', hs => by
    have h0 : ∀ z ∈ a, z ∈ b := fun z hz => hs 0 z hz
    have ih := subs_sz (L := t) (L' := u) (by simpa using h) (fun k => hL (k + 1)) (fun k => hL' (k + 1)) (fun k z hz => hs (k + 1) z hz)
    have h1 := sub_len (hL 0) h0
    simp only [List.getD_cons_zero] at h1
    have e1 : szL (a :: t) = a.length + szL t := by simp [szL]
    have e2 : szL (b :: u) = b.length + szL u := by simp [szL]
    refine ⟨by omega, fun he => ?_⟩
    have e3 : a = b := sub_eq (hL 0) (hL' 0) h0 (by omega)
    rw [ih.2 (by omega), e3]
theorem asc_le {a : List Int} (ha : Asc a) (hM : ∀ z ∈ a, z < (M : Int)) : a.length ≤ M := by
  have h1 : ∀ z ∈ a, z ∈ (List.range M).map (fun i : Nat => (i : Int)) := fun z hz => by
    have h2 := (ha.2 z hz).1
    have h3 := hM z hz
    exact List.mem_map.2 ⟨z.toNat, List.mem_range.2 (by omega), by omega⟩
  have h4 := sub_len ha h1
  simpa using h4
theorem sz_le : ∀ {L : List (List Int)}, (∀ k : Nat, Asc (L.getD k [])) → (∀ (k : Nat) (z : Int), z ∈ L.getD k [] → z < (M : Int)) → szL L ≤ L.length * M
  | [], _, _ => by simp [szL]
  | a :: t, h1, h2 => by
    have ih := sz_le (L := t) (fun k => h1 (k + 1)) (fun k z hz => h2 (k + 1) z hz)
    have h3 := asc_le (h1 0) (h2 0)
    have e1 : szL (a :: t) = a.length + szL t := by simp [szL]
    simp only [List.getD_cons_zero] at h3
    rw [e1, List.length_cons, Nat.add_mul]
    omega
theorem it_grow (h : LvOk l M) (t : Nat) (hne : stepL l (itL l t) ≠ itL l t) : szL (itL l t) < szL (itL l (t + 1)) := by
  have h1 := subs_sz (by rw [(itL_in h t).len, (itL_in h (t + 1)).len]) (itL_in h t).asc (itL_in h (t + 1)).asc (it_mono h t)
  rcases Nat.lt_or_ge (szL (itL l t)) (szL (itL l (t + 1))) with h2 | h2
  · exact h2
  · exact (hne (h1.2 (by omega)).symm).elim
theorem it_bound (h : LvOk l M) (t : Nat) : szL (itL l t) ≤ l.length * M := by
  have := sz_le (itL_in h t).asc (itL_in h t).lt
  rwa [(itL_in h t).len] at this
/-- Where a repetition changes nothing, none behind it does. -/
theorem it_stay {t : Nat} (he : stepL l (itL l t) = itL l t) : ∀ d : Nat, itL l (t + d) = itL l t
  | 0 => rfl
  | d + 1 => by
    show stepL l (itL l (t + d)) = itL l t
    rw [it_stay he d, he]
theorem it_ends (h : LvOk l M) : ∀ t : Nat, t ≤ szL (itL l t) ∨ stepL l (itL l t) = itL l t
  | 0 => .inl (Nat.zero_le _)
  | t + 1 => by
    by_cases he : stepL l (itL l t) = itL l t
    · refine .inr ?_
      rw [show itL l (t + 1) = itL l t from he]
      exact he
    · have h1 := it_grow h t he
      rcases it_ends h t with h2 | h2
      · exact .inl (by omega)
      · exact (he h2).elim
theorem sol_fix (h : LvOk l M) : stepL l (solL l M) = solL l M := by
  by_cases he : stepL l (itL l (l.length * M)) = itL l (l.length * M)
  · exact he
  · have h1 := it_grow h _ he
    have h2 := it_bound h (l.length * M + 1)
    rcases it_ends h (l.length * M) with h3 | h3
    · omega
    · exact h3
theorem sol_late (h : LvOk l M) {t : Nat} (ht : l.length * M ≤ t) : itL l t = solL l M := by
  obtain ⟨d, rfl⟩ := Nat.le.dest ht
  exact it_stay (sol_fix h) d
theorem sol_in (h : LvOk l M) : LvIn l.length M (solL l M) := itL_in h _
theorem mem_sol (h : LvOk l M) : z ∈ (solL l M).getD k [] ↔ Lv l k z :=
  ⟨it_sound h _ k z, pre_all h (sol_in h).asc (by rw [sol_fix h]; exact fun _ _ hz => hz)⟩
/-- The first repetition that changes nothing is the least solution. -/
theorem sol_first (h : LvOk l M) {t : Nat} (he : stepL l (itL l t) = itL l t) : itL l t = solL l M := by
  by_cases ht : t ≤ l.length * M
  · obtain ⟨d, hd⟩ := Nat.le.dest ht
    unfold solL
    rw [← hd]
    exact (it_stay he d).symm
  · exact sol_late h (by omega)
theorem list_ext {L L' : List (List Int)} (hl : L.length = L'.length) (h : ∀ k : Nat, k < L.length → L.getD k [] = L'.getD k []) : L = L' := by
  refine List.ext_getElem hl fun k h1 h2 => ?_
  have := h k h1
  rwa [List.getD_eq_getElem?_getD, List.getD_eq_getElem?_getD, List.getElem?_eq_getElem h1, List.getElem?_eq_getElem h2] at this
/-- What has just what may be read is the least solution. -/
theorem sol_one (h : LvOk l M) (hL : LvIn l.length M L) (hm : ∀ (k : Nat) (z : Int), k < l.length → (z ∈ L.getD k [] ↔ Lv l k z)) : L = solL l M := by
  refine list_ext (by rw [hL.len, (sol_in h).len]) fun k hk => ?_
  exact (hL.asc k).ext ((sol_in h).asc k) fun z _ _ => by rw [hm k z (by rw [hL.len] at hk; exact hk), mem_sol h]
end
end Go.Proofs.Ytjbgepjdohfhkaa
end

section
/-
  How a slot spreads backwards from its readers, as mathematics: what the worklist holds, what has been marked. No function of the program is named here.
-/
namespace Go.Proofs.Ytjbgepjdohfhkaa
open Go.RowKit

/-- Slot s may be read at the beginning of instruction j. -/
def Bg (l : List Ins) (s : Int) (j : Nat) : Prop := ∃ x, l[j]? = some x ∧ (s ∈ usL x.op x.b ∨ (¬ (defB x.op = true ∧ s = x.a) ∧ Lv l j s))
/-- The same, as far as it has been found: D are the marks. -/
def BgD (l : List Ins) (s : Int) (D : Nat → Bool) (j : Nat) : Prop := ∃ x, l[j]? = some x ∧ (s ∈ usL x.op x.b ∨ (¬ (defB x.op = true ∧ s = x.a) ∧ D j = true))
structure SprI (l : List Ins) (s : Int) (D : Nat → Bool) (W : List Nat) : Prop where
  snd : ∀ k : Nat, D k = true → Lv l k s
  bg : ∀ j ∈ W, Bg l s j
  dn : ∀ j : Nat, BgD l s D j → j ∈ W ∨ ∀ k : Nat, j ∈ suc l k → D k = true
structure SprK (l : List Ins) (s : Int) (D : Nat → Bool) (W : List Nat) (j i : Nat) : Prop where
  snd : ∀ k : Nat, D k = true → Lv l k s
  bg : ∀ m ∈ W, Bg l s m
  dn : ∀ m : Nat, BgD l s D m → m ∈ W ∨ m = j ∨ ∀ k : Nat, m ∈ suc l k → D k = true
  me : Bg l s j
  cur : ∀ k ∈ (befN l l.length j).take i, D k = true
def mark1 (D : Nat → Bool) (k : Nat) : Nat → Bool := fun m => decide (m = k) || D m
def cntU (D : Nat → Bool) (n : Nat) : Nat := (List.range n).countP fun k => !D k
section
variable {l : List Ins} {s : Int} {D : Nat → Bool} {W : List Nat} {j i k : Nat}
theorem mark1_same (D : Nat → Bool) (k : Nat) : mark1 D k k = true := by simp [mark1]
theorem mark1_old (k : Nat) {m : Nat} (h : D m = true) : mark1 D k m = true := by simp [mark1, h]
theorem mark1_ne {m : Nat} (h : m ≠ k) : mark1 D k m = D m := by simp [mark1, h]
theorem suc_in_lt (h : j ∈ suc l k) : k < l.length := by
  refine Nat.lt_of_not_le fun hn => ?_
  rw [suc_none (by omega)] at h
  cases h
theorem SprI.start {R : List Nat} (h : ∀ j : Nat, j ∈ R ↔ ∃ x, l[j]? = some x ∧ s ∈ usL x.op x.b) : SprI l s (fun _ => false) R := by
  refine ⟨fun k hk => (by cases hk), fun j hj => ?_, fun j hj => ?_⟩
  · obtain ⟨x, hx, hu⟩ := (h j).1 hj
    exact ⟨x, hx, .inl hu⟩
  · obtain ⟨x, hx, hu | hu⟩ := hj
    · exact .inl ((h j).2 ⟨x, hx, hu⟩)
    · cases hu.2
theorem SprI.pop (h : SprI l s D (W ++ [j])) : SprK l s D W j 0 := by
  refine ⟨h.snd, fun m hm => h.bg m (List.mem_append_left _ hm), fun m hm => ?_, h.bg j (by simp), fun k hk => by simp at hk⟩
  rcases h.dn m hm with q | q
  · rw [List.mem_append, List.mem_singleton] at q
    rcases q with q | q
    · exact .inl q
    · exact .inr (.inl q)
  · exact .inr (.inr q)
theorem take_mem {L : List Nat} {i k m : Nat} (hk : L[i]? = some k) (h : m ∈ L.take (i + 1)) : m ∈ L.take i ∨ m = k := by
  obtain ⟨h1, h2⟩ := List.getElem?_eq_some_iff.1 hk
  rw [List.take_succ_eq_append_getElem h1, List.mem_append, List.mem_singleton, h2] at h
  exact h
theorem SprK.old (h : SprK l s D W j i) (hk : (befN l l.length j)[i]? = some k) (hd : D k = true) : SprK l s D W j (i + 1) :=
  ⟨h.snd, h.bg, h.dn, h.me, fun m hm => by
    rcases take_mem hk hm with q | q
    · exact h.cur m q
    · rw [q]; exact hd⟩
theorem SprK.lv (h : SprK l s D W j i) (hk : (befN l l.length j)[i]? = some k) : k < l.length ∧ j ∈ suc l k ∧ Lv l k s := by
  obtain ⟨h1, h2⟩ := mem_bef.1 (List.mem_of_getElem? hk)
  obtain ⟨x, hx, hu | hu⟩ := h.me
  · exact ⟨h1, h2, .use h2 hx hu⟩
  · exact ⟨h1, h2, .on h2 hx hu.1 hu.2⟩
/-- Instruction k gets its mark; it goes onto the list if it does not write the slot. -/
theorem SprK.new {x : Ins} (h : SprK l s D W j i) (hk : (befN l l.length j)[i]? = some k) (hx : l[k]? = some x) : SprK l s (mark1 D k) (if defB x.op = true ∧ x.a = s then W else W ++ [k]) j (i + 1) := by
  obtain ⟨h1, h2, h3⟩ := h.lv hk
  refine ⟨fun m hm => ?_, fun m hm => ?_, fun m hm => ?_, h.me, fun m hm => ?_⟩
  · by_cases e : m = k
    · rw [e]; exact h3
    · rw [mark1_ne e] at hm; exact h.snd m hm
  · split at hm
    · exact h.bg m hm
    · rename_i hn
      rw [List.mem_append, List.mem_singleton] at hm
      rcases hm with hm | hm
      · exact h.bg m hm
      · rw [hm]; exact ⟨x, hx, .inr ⟨fun q => hn ⟨q.1, q.2.symm⟩, h3⟩⟩
  · by_cases e : m = k ∧ ¬ (defB x.op = true ∧ x.a = s)
    · refine .inl ?_
      rw [if_neg e.2, e.1]
      simp
    · have hm2 : BgD l s D m := by
        obtain ⟨y, hy, hu | hu⟩ := hm
        · exact ⟨y, hy, .inl hu⟩
        · refine ⟨y, hy, .inr ⟨hu.1, ?_⟩⟩
          by_cases q : m = k
          · exfalso
            subst q
            rw [hx] at hy
            injection hy with hy
            subst hy
            exact e ⟨rfl, fun r => hu.1 ⟨r.1, r.2.symm⟩⟩
          · have := hu.2
            rwa [mark1_ne q] at this
      rcases h.dn m hm2 with q | q | q
      · refine .inl ?_
        split
        · exact q
        · exact List.mem_append_left _ q
      · exact .inr (.inl q)
      · exact .inr (.inr fun k' hk' => mark1_old k (q k' hk'))
  · rcases take_mem hk hm with q | q
    · exact mark1_old k (h.cur m q)
    · rw [q]; exact mark1_same D k
theorem SprK.over (h : SprK l s D W j i) (hi : (befN l l.length j).length ≤ i) : SprI l s D W := by
  refine ⟨h.snd, h.bg, fun m hm => ?_⟩
  rcases h.dn m hm with q | q | q
  · exact .inl q
  · refine .inr fun k hk => h.cur k ?_
    rw [List.take_of_length_le hi, mem_bef]
    rw [q] at hk
    exact ⟨suc_in_lt hk, hk⟩
  · exact .inr q
theorem SprI.end_ (h : SprI l s D []) (k : Nat) : D k = true ↔ Lv l k s := by
  refine ⟨h.snd k, fun hv => ?_⟩
  have key : ∀ (m : Nat) (z : Int), Lv l m z → z = s → D m = true := by
    intro m z hz
    induction hz with
    | use hj hx hu =>
      intro e
      subst e
      rcases h.dn _ ⟨_, hx, .inl hu⟩ with q | q
      · cases q
      · exact q _ hj
    | on hj hx hn _ ih =>
      intro e
      subst e
      rcases h.dn _ ⟨_, hx, .inr ⟨hn, ih rfl⟩⟩ with q | q
      · cases q
      · exact q _ hj
  exact key k s hv rfl
theorem cntU_mark {n : Nat} (hk : k < n) (hd : D k = false) : cntU (mark1 D k) n + 1 ≤ cntU D n := by
  have key : ∀ n : Nat, (cntU (mark1 D k) n ≤ cntU D n) ∧ (k < n → cntU (mark1 D k) n + 1 ≤ cntU D n) := by
    intro n
    induction n with
    | zero => exact ⟨Nat.le_refl _, fun h => by omega⟩
    | succ n ih =>
      have e1 : ∀ E : Nat → Bool, cntU E (n + 1) = cntU E n + (if E n = false then 1 else 0) := fun E => by
        unfold cntU
        rw [List.range_succ, List.countP_append, List.countP_singleton]
        cases E n <;> simp
      rw [e1, e1]
      by_cases q : n = k
      · subst q
        rw [mark1_same, hd]
        have := ih.1
        simp
        omega
      · rw [mark1_ne q]
        refine ⟨by have := ih.1; omega, fun h => by have := ih.2 (by omega); omega⟩
  exact (key n).2 hk
theorem cntU_le (D : Nat → Bool) (n : Nat) : cntU D n ≤ n := by
  unfold cntU
  have := List.countP_le_length (p := fun k => !D k) (l := List.range n)
  simpa using this
end
end Go.Proofs.Ytjbgepjdohfhkaa
end
