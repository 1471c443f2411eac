import Derived.Test.YtipjeihfhnilcaaMBmath
import Derived.Test.YtipjeihfhnilcaaMFmath
import Derived.Test.YtipjeihfhnilcaaMApn
set_option linter.unusedVariables false
set_option linter.unusedSimpArgs false
section
/-
  Lists of lists of ints in memory: a row of the call's own that holds slices, each nil or a row of the call's own too. No function of the program is named here.
-/
namespace Go.Proofs.Ytipjeihfhnilcaa
open Go.RowKit

theorem fgrown_set (w : World) (g k : Nat) (u : Value) : w.grownBy (w.setCell ⟨g, k, none⟩ u) (some g) :=
  ⟨rfl, rfl, rfl, by simp [World.setCell], fun j _ hne => Below.heap_setCell w ⟨g, k, none⟩ u j (fun e => hne (by rw [e]))⟩
theorem fown_apart {w : World} {base e size n g t : Nat} {v : Value} {xs cs : List Value} (h : w.ownsRow base e size v n xs) (hr : Row w g t cs) (ht : t ≠ e) : v.ownBlock = none ∨ v.ownBlock ≠ some g := by
  rcases h.2 with ⟨rfl, _⟩ | ⟨g', cap, cur, rfl, _, hg, _⟩
  · exact .inl rfl
  · refine .inr fun he => ?_
    simp only [Value.ownBlock, Option.some.injEq] at he
    subst he
    have : some (Obj.cells cs.toArray t (0, 0)) = some (Obj.cells cur e (0, 0)) := hr.symm.trans hg
    injection this with this
    injection this with _ h2 _
    exact ht h2
theorem fty_ne : 44 ≠ 3 := by decide

/-- Block g holds the slices vs; slice i holds the numbers of list i of zss. -/
structure LLs (w : World) (base g : Nat) (vs : List Value) (zss : List (List Nat)) : Prop where
  len : vs.length = zss.length
  row : Row w g 44 vs
  gb : base ≤ g
  own : ∀ (i : Nat) (v : Value) (zs : List Nat), vs[i]? = some v → zss[i]? = some zs → w.ownsRow base 3 1 v zs.length (cellsI (toI zs))
  ne : ∀ (i j : Nat) (v v' : Value) (b : Nat), vs[i]? = some v → vs[j]? = some v' → v.ownBlock = some b → v'.ownBlock = some b → i = j
  rng : ∀ (i : Nat) (zs : List Nat), zss[i]? = some zs → ∀ z ∈ zs, z ≤ 1000000
section
variable {w w' : World} {base g : Nat} {vs : List Value} {zss : List (List Nat)}
theorem LLs.below (h : LLs w base g vs zss) (hb : Below w.heap.size w w') : LLs w' base g vs zss :=
  ⟨h.len, h.row.call hb, h.gb, fun i v zs h1 h2 => own_below (h.own i v zs h1 h2) hb, h.ne, h.rng⟩
theorem LLs.drewN (h : LLs w base g vs zss) (k : Nat) : LLs (w.drewN k) base g vs zss := ⟨h.len, h.row, h.gb, h.own, h.ne, h.rng⟩
theorem LLs.lower {base' : Nat} (h : LLs w base g vs zss) (hb : base' ≤ base) : LLs w base' g vs zss :=
  ⟨h.len, h.row, Nat.le_trans hb h.gb, fun i v zs h1 h2 => own_lower (h.own i v zs h1 h2) hb, h.ne, h.rng⟩
theorem LLs.make {n : Nat} (h : Row w g 44 (List.replicate n (.slice none 0 0))) (hb : base ≤ g) : LLs w base g (List.replicate n (.slice none 0 0)) (List.replicate n []) := by
  refine ⟨by simp, h, hb, fun i v zs h1 h2 => ?_, fun i j v v' b h1 _ h3 _ => ?_, fun i zs h1 z hz => ?_⟩
  · rw [List.getElem?_replicate] at h1 h2
    split at h1
    · injection h1 with h1
      rename_i hi
      rw [if_pos hi] at h2
      injection h2 with h2
      subst h1 h2
      exact World.ownsRow_nil w base 3 1
    · cases h1
  · rw [List.getElem?_replicate] at h1
    split at h1
    · injection h1 with h1
      subst h1
      cases h3
    · cases h1
  · rw [List.getElem?_replicate] at h1
    split at h1
    · injection h1 with h1
      subst h1
      simp at hz
    · cases h1
/-- List j has got one number more. -/
theorem LLs.app {o : Obj} {j x : Nat} {v v' : Value} {zs : List Nat} (h : LLs w base g vs zss) (hv : vs[j]? = some v) (hz : zss[j]? = some zs) (hx : x ≤ 1000000)
    (ho : w'.ownsRow base 3 1 v' (zs.length + 1) (cellsI (toI zs) ++ [.int .i64 (x : Int)])) (hg : (w.alloc o).grownBy w' v.ownBlock) (hw : ∀ k, v'.ownBlock = some k → v.ownBlock = some k ∨ k = (w.alloc o).heap.size) :
    LLs (w'.setCell ⟨g, j, none⟩ v') base g (vs.set j v') (zss.set j (zs ++ [x])) := by
  have hj : j < vs.length := (List.getElem?_eq_some_iff.1 hv).1
  have hj' : j < zss.length := (List.getElem?_eq_some_iff.1 hz).1
  have hvo := h.own j v zs hv hz
  have hR : Row w' g 44 vs := by
    have h1 := fown_apart hvo h.row fty_ne
    exact (h.row.alloc o).grown hg (fun e => by
      rcases h1 with h1 | h1
      · rw [h1] at e; cases e
      · exact h1 e.symm)
  have hR' := hR.set_ j v'
  have hlt : ∀ (i : Nat) (u : Value) (b : Nat), vs[i]? = some u → u.ownBlock = some b → b < w.heap.size := fun i u b h1 h2 => by
    have hi : i < zss.length := by rw [← h.len]; exact (List.getElem?_eq_some_iff.1 h1).1
    exact ((h.own i u _ h1 (List.getElem?_eq_getElem hi)).lt b h2).2
  have keep : ∀ (i : Nat) (u : Value) (ys : List Nat), i ≠ j → vs[i]? = some u → zss[i]? = some ys → (w'.setCell ⟨g, j, none⟩ v').ownsRow base 3 1 u ys.length (cellsI (toI ys)) := fun i u ys hne h1 h2 => by
    have q0 := h.own i u ys h1 h2
    have q1 : u.ownBlock = none ∨ u.ownBlock ≠ v.ownBlock := by
      cases hb : u.ownBlock with
      | none => exact .inl rfl
      | some b => exact .inr fun e => hne (h.ne i j u v b h1 hv hb e.symm)
    have q2 := (q0.alloc o).kept hg q1
    exact q2.kept (fgrown_set w' g j v') (fown_apart q2 hR fty_ne)
  refine ⟨by simpa using h.len, hR', h.gb, fun i u ys h1 h2 => ?_, fun i i' u u' b h1 h2 h3 h4 => ?_, fun i ys h1 z hz' => ?_⟩
  · rw [List.getElem?_set] at h1 h2
    by_cases e : j = i
    · subst e
      rw [if_pos rfl, if_pos hj] at h1
      rw [if_pos rfl, if_pos hj'] at h2
      injection h1 with h1
      injection h2 with h2
      subst h1 h2
      have q : w'.ownsRow base 3 1 v' (zs ++ [x]).length (cellsI (toI (zs ++ [x]))) := by
        rw [toI_append, cellsI_append, List.length_append]; exact ho
      exact q.kept (fgrown_set w' g j v') (fown_apart q hR fty_ne)
    · rw [if_neg e] at h1 h2
      exact keep i u ys (fun h => e h.symm) h1 h2
  · rw [List.getElem?_set] at h1 h2
    have far : ∀ (m : Nat) (y : Value), j ≠ m → vs[m]? = some y → y.ownBlock = some b → v'.ownBlock = some b → False := fun m y hm hy hyb hb => by
      rcases hw b hb with q | q
      · exact hm (h.ne j m v y b hv hy q hyb)
      · have := hlt m y b hy hyb
        have hs : (w.alloc o).heap.size = w.heap.size + 1 := by simp
        omega
    by_cases e : j = i
    · by_cases e' : j = i'
      · omega
      · subst e
        rw [if_pos rfl, if_pos hj] at h1
        rw [if_neg e'] at h2
        injection h1 with h1
        subst h1
        exact (far i' u' e' h2 h4 h3).elim
    · rw [if_neg e] at h1
      by_cases e' : j = i'
      · subst e'
        rw [if_pos rfl, if_pos hj] at h2
        injection h2 with h2
        subst h2
        exact (far i u e h1 h3 h4).elim
      · rw [if_neg e'] at h2
        exact h.ne i i' u u' b h1 h2 h3 h4
  · rw [List.getElem?_set] at h1
    by_cases e : j = i
    · rw [if_pos e, if_pos hj'] at h1
      injection h1 with h1
      subst h1
      rw [List.mem_append] at hz'
      rcases hz' with hz' | hz'
      · exact h.rng j zs hz z hz'
      · simp at hz'; omega
    · rw [if_neg e] at h1
      exact h.rng i ys h1 z hz'
/-- List i can be read. -/
theorem LLs.at_ (h : LLs w base g vs zss) {i : Nat} (hi : i < zss.length) : ∃ (A : Option Addr) (n c : Nat), vs[i]? = some (.slice A n c) ∧ w.cell? ⟨g, i, none⟩ = some (.slice A n c) ∧ n = zss[i].length ∧ Lst w A n (toI zss[i]) ∧ w.ownsRow base 3 1 (.slice A n c) n (cellsI (toI zss[i])) := by
  have hv : i < vs.length := by rw [h.len]; exact hi
  have h1 := List.getElem?_eq_getElem hv
  have h2 := List.getElem?_eq_getElem hi
  have ho := h.own i _ _ h1 h2
  obtain ⟨A, c, e, -, hm⟩ := own_form ho
  rw [e] at h1 ho
  refine ⟨A, _, c, h1, h.row.cell h1, rfl, ⟨toI_len _, by unfold maxLen at hm; omega, Sees.ownN ho, fun z hz => ?_⟩, ho⟩
  obtain ⟨y, hy, rfl⟩ := List.mem_map.1 hz
  have := h.rng i _ h2 y hy
  omega
end
/-- What a function that hands back a list of lists leaves. -/
def ListsPost (zss : List (List Nat)) (w : World) (e : Ending) (w' : World) : Prop :=
  ∃ (g : Nat) (vs : List Value), e = .returned (.slice (some ⟨g, 0, none⟩) zss.length zss.length) ∧ LLs w' w.heap.size g vs zss ∧ Below w.heap.size w w'
end Go.Proofs.Ytipjeihfhnilcaa
end
