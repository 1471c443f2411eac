import Derived.Test.YtidlnecgfgnllaaDoorMOwr
import Derived.Test.YtidlnecgfgnllaaDoorMPmath
import Derived.Test.YtidlnecgfgnllaaDoorMKit
import Derived.Test.YtidlnecgfgnllaaDoorMFgr
import Derived.Laws.Tables
import Derived.Laws.Cells
set_option linter.unusedVariables false
set_option linter.unusedSimpArgs false
section
/-
  Lists of lists of ints in memory: a row of the call's own that holds slices, each nil or a row of the call's own too. No function of the program is named here.
-/
namespace Go.Proofs.YtidlnecgfgnllaaDoor
open Go.RowKit

theorem fgrown_set (w : World) (g k : Nat) (u : Value) : w.grownBy (w.setCell ⟨g, k, none⟩ u) (some g) :=
  ⟨rfl, rfl, rfl, by simp [World.setCell], fun j _ hne => Below.heap_setCell w ⟨g, k, none⟩ u j (fun e => hne (by rw [e]))⟩
theorem fown_apart {w : World} {base e size n g t : Nat} {v : Value} {xs cs : List Value} (h : w.ownsRow base e size v n xs) (hr : Row w g t cs) (ht : t ≠ e) : v.ownBlock = none ∨ v.ownBlock ≠ some g := by
  rcases h.2 with ⟨rfl, _⟩ | ⟨g', cap, cur, rfl, _, hg, _⟩
  · exact .inl rfl
  · refine .inr fun he => ?_
    simp only [Value.ownBlock, Option.some.injEq] at he
    subst he
    have : some (Obj.cells cs.toArray t (0, 0)) = some (Obj.cells cur e (0, 0)) := hr.symm.trans hg
    injection this with this
    injection this with _ h2 _
    exact ht h2
theorem fty_ne : 42 ≠ 3 := by decide

/-- Block g holds the slices vs; slice i holds the numbers of list i of zss. -/
structure LLs (w : World) (base g : Nat) (vs : List Value) (zss : List (List Nat)) : Prop where
  len : vs.length = zss.length
  row : Row w g 42 vs
  gb : base ≤ g
  own : ∀ (i : Nat) (v : Value) (zs : List Nat), vs[i]? = some v → zss[i]? = some zs → w.ownsRow base 3 1 v zs.length (cellsI (toI zs))
  ne : ∀ (i j : Nat) (v v' : Value) (b : Nat), vs[i]? = some v → vs[j]? = some v' → v.ownBlock = some b → v'.ownBlock = some b → i = j
  rng : ∀ (i : Nat) (zs : List Nat), zss[i]? = some zs → ∀ z ∈ zs, z ≤ 1000000
section
variable {w w' : World} {base g : Nat} {vs : List Value} {zss : List (List Nat)}
theorem LLs.below (h : LLs w base g vs zss) (hb : Below w.heap.size w w') : LLs w' base g vs zss :=
  ⟨h.len, h.row.call hb, h.gb, fun i v zs h1 h2 => own_below (h.own i v zs h1 h2) hb, h.ne, h.rng⟩
theorem LLs.drewN (h : LLs w base g vs zss) (k : Nat) : LLs (w.drewN k) base g vs zss := ⟨h.len, h.row, h.gb, h.own, h.ne, h.rng⟩
theorem LLs.lower {base' : Nat} (h : LLs w base g vs zss) (hb : base' ≤ base) : LLs w base' g vs zss :=
  ⟨h.len, h.row, Nat.le_trans hb h.gb, fun i v zs h1 h2 => own_lower (h.own i v zs h1 h2) hb, h.ne, h.rng⟩
theorem LLs.make {n : Nat} (h : Row w g 42 (List.replicate n (.slice none 0 0))) (hb : base ≤ g) : LLs w base g (List.replicate n (.slice none 0 0)) (List.replicate n []) := by
  refine ⟨by simp, h, hb, fun i v zs h1 h2 => ?_, fun i j v v' b h1 _ h3 _ => ?_, fun i zs h1 z hz => ?_⟩
  · rw [List.getElem?_replicate] at h1 h2
    split at h1
    · injection h1 with h1
      rename_i hi
      rw [if_pos hi] at h2
      injection h2 with h2
      subst h1 h2
      exact World.ownsRow_nil w base 3 1
    · cases h1
  · rw [List.getElem?_replicate] at h1
    split at h1
    · injection h1 with h1
      subst h1
      cases h3
    · cases h1
  · rw [List.getElem?_replicate] at h1
    split at h1
    · injection h1 with h1
      subst h1
      simp at hz
    · cases h1
/-- List j has got one number more. -/
theorem LLs.app {o : Obj} {j x : Nat} {v v' : Value} {zs : List Nat} (h : LLs w base g vs zss) (hv : vs[j]? = some v) (hz : zss[j]? = some zs) (hx : x ≤ 1000000)
    (ho : w'.ownsRow base 3 1 v' (zs.length + 1) (cellsI (toI zs) ++ [.int .i64 (x : Int)])) (hg : (w.alloc o).grownBy w' v.ownBlock) (hw : ∀ k, v'.ownBlock = some k → v.ownBlock = some k ∨ k = (w.alloc o).heap.size) :
    LLs (w'.setCell ⟨g, j, none⟩ v') base g (vs.set j v') (zss.set j (zs ++ [x])) := by
  have hj : j < vs.length := (List.getElem?_eq_some_iff.1 hv).1
  have hj' : j < zss.length := (List.getElem?_eq_some_iff.1 hz).1
  have hvo := h.own j v zs hv hz
  have hR : Row w' g 42 vs := by
    have h1 := fown_apart hvo h.row fty_ne
    exact (h.row.alloc o).grown hg (fun e => by
      rcases h1 with h1 | h1
      · rw [h1] at e; cases e
      · exact h1 e.symm)
  have hR' := hR.set_ j v'
  have hlt : ∀ (i : Nat) (u : Value) (b : Nat), vs[i]? = some u → u.ownBlock = some b → b < w.heap.size := fun i u b h1 h2 => by
    have hi : i < zss.length := by rw [← h.len]; exact (List.getElem?_eq_some_iff.1 h1).1
    exact ((h.own i u _ h1 (List.getElem?_eq_getElem hi)).lt b h2).2
  have keep : ∀ (i : Nat) (u : Value) (ys : List Nat), i ≠ j → vs[i]? = some u → zss[i]? = some ys → (w'.setCell ⟨g, j, none⟩ v').ownsRow base 3 1 u ys.length (cellsI (toI ys)) := fun i u ys hne h1 h2 => by
    have q0 := h.own i u ys h1 h2
    have q1 : u.ownBlock = none ∨ u.ownBlock ≠ v.ownBlock := by
      cases hb : u.ownBlock with
      | none => exact .inl rfl
      | some b => exact .inr fun e => hne (h.ne i j u v b h1 hv hb e.symm)
    have q2 := (q0.alloc o).kept hg q1
    exact q2.kept (fgrown_set w' g j v') (fown_apart q2 hR fty_ne)
  refine ⟨by simpa using h.len, hR', h.gb, fun i u ys h1 h2 => ?_, fun i i' u u' b h1 h2 h3 h4 => ?_, fun i ys h1 z hz' => ?_⟩
  · rw [List.getElem?_set] at h1 h2
    by_cases e : j = i
    · subst e
      rw [if_pos rfl, if_pos hj] at h1
      rw [if_pos rfl, if_pos hj'] at h2
      injection h1 with h1
      injection h2 with h2
      subst h1 h2
      have q : w'.ownsRow base 3 1 v' (zs ++ [x]).length (cellsI (toI (zs ++ [x]))) := by
        rw [toI_append, cellsI_append, List.length_append]; exact ho
      exact q.kept (fgrown_set w' g j v') (fown_apart q hR fty_ne)
    · rw [if_neg e] at h1 h2
      exact keep i u ys (fun h => e h.symm) h1 h2
  · rw [List.getElem?_set] at h1 h2
    have far : ∀ (m : Nat) (y : Value), j ≠ m → vs[m]? = some y → y.ownBlock = some b → v'.ownBlock = some b → False := fun m y hm hy hyb hb => by
      rcases hw b hb with q | q
      · exact hm (h.ne j m v y b hv hy q hyb)
      · have := hlt m y b hy hyb
        have hs : (w.alloc o).heap.size = w.heap.size + 1 := by simp
        omega
    by_cases e : j = i
    · by_cases e' : j = i'
      · omega
      · subst e
        rw [if_pos rfl, if_pos hj] at h1
        rw [if_neg e'] at h2
        injection h1 with h1
        subst h1
        exact (far i' u' e' h2 h4 h3).elim
    · rw [if_neg e] at h1
      by_cases e' : j = i'
      · subst e'
        rw [if_pos rfl, if_pos hj] at h2
        injection h2 with h2
        subst h2
        exact (far i u e h1 h3 h4).elim
      · rw [if_neg e'] at h2
        exact h.ne i i' u u' b h1 h2 h3 h4
  · rw [List.getElem?_set] at h1
    by_cases e : j = i
    · rw [if_pos e, if_pos hj'] at h1
      injection h1 with h1
      subst h1
      rw [List.mem_append] at hz'
      rcases hz' with hz' | hz'
      · exact h.rng j zs hz z hz'
      · simp at hz'; omega
    · rw [if_neg e] at h1
      exact h.rng i ys h1 z hz'
/-- List i can be read. -/
theorem LLs.at_ (h : LLs w base g vs zss) {i : Nat} (hi : i < zss.length) : ∃ (A : Option Addr) (n c : Nat), vs[i]? = some (.slice A n c) ∧ w.cell? ⟨g, i, none⟩ = some (.slice A n c) ∧ n = zss[i].length ∧ Lst w A n (toI zss[i]) ∧ w.ownsRow base 3 1 (.slice A n c) n (cellsI (toI zss[i])) := by
  have hv : i < vs.length := by rw [h.len]; exact hi
  have h1 := List.getElem?_eq_getElem hv
  have h2 := List.getElem?_eq_getElem hi
  have ho := h.own i _ _ h1 h2
  obtain ⟨A, c, e, -, hm⟩ := own_form ho
  rw [e] at h1 ho
  refine ⟨A, _, c, h1, h.row.cell h1, rfl, ⟨toI_len _, by unfold maxLen at hm; omega, Sees.ownN ho, fun z hz => ?_⟩, ho⟩
  obtain ⟨y, hy, rfl⟩ := List.mem_map.1 hz
  have := h.rng i _ h2 y hy
  omega
end
/-- What a function that hands back a list of lists leaves. -/
def ListsPost (zss : List (List Nat)) (w : World) (e : Ending) (w' : World) : Prop :=
  ∃ (g : Nat) (vs : List Value), e = .returned (.slice (some ⟨g, 0, none⟩) zss.length zss.length) ∧ LLs w' w.heap.size g vs zss ∧ Below w.heap.size w w'
end Go.Proofs.YtidlnecgfgnllaaDoor
end

section
/-
  What a call keeps that writes only into blocks older than a given one; the row of what may follow an instruction. No function of the program is named here.
-/
namespace Go.Proofs.YtidlnecgfgnllaaDoor
open Go.RowKit

/-- Blocks from base on are as they were. -/
def OldK (base : Nat) (w w' : World) : Prop := w.heap.size ≤ w'.heap.size ∧ ∀ b, base ≤ b → b < w.heap.size → w'.heap[b]? = w.heap[b]?
section
variable {base base' : Nat} {w w' w2 : World} {g t : Nat} {cs : List Value} {A : Option Addr} {xs : List Nat}
theorem OldK.refl : OldK base w w := ⟨Nat.le_refl _, fun _ _ _ => rfl⟩
theorem OldK.trans (h : OldK base w w') (h' : OldK base w' w2) : OldK base w w2 := ⟨Nat.le_trans h.1 h'.1, fun b h1 h2 => (h'.2 b h1 (Nat.lt_of_lt_of_le h2 h.1)).trans (h.2 b h1 h2)⟩
theorem OldK.mono (h : OldK base w w') (hb : base ≤ base') : OldK base' w w' := ⟨h.1, fun b h1 h2 => h.2 b (Nat.le_trans hb h1) h2⟩
theorem OldK.below (hb : Below w.heap.size w w') : OldK base w w' := ⟨hb.size, fun b _ h2 => hb.block b h2⟩
theorem OldK.set_ (hg : g < base) (k : Nat) (u : Value) : OldK base w (w.setCell ⟨g, k, none⟩ u) := ⟨by simp, fun b h1 _ => Below.heap_setCell w ⟨g, k, none⟩ u b (show b ≠ g by omega)⟩
theorem OldK.row (h : OldK base w w') (hr : Row w g t cs) (hg : base ≤ g) : Row w' g t cs := (h.2 g hg hr.lt).trans hr
/-- A slice of these numbers at the head of a block. -/
def NxAt (w : World) (base : Nat) (A : Option Addr) (xs : List Nat) : Prop := xs = [] ∨ ∃ g sp, A = some ⟨g, 0, none⟩ ∧ base ≤ g ∧ Row w g 3 (cellsI (toI xs) ++ sp)
theorem NxAt.of {b c : Nat} (h : w.ownsRow b 3 1 (.slice A xs.length c) xs.length (cellsI (toI xs))) (hb : base ≤ b) : NxAt w base A xs := by
  by_cases h0 : xs = []
  · exact .inl h0
  · obtain ⟨g, c', sp, e, hg, hr⟩ := own_row h (List.length_pos_iff.2 h0)
    injection e with e1 e2 e3
    exact .inr ⟨g, sp, e1, Nat.le_trans hb hg, hr⟩
theorem NxAt.old (h : NxAt w base A xs) (ho : OldK base w w') : NxAt w' base A xs := by
  rcases h with h | ⟨g, sp, e, hg, hr⟩
  · exact .inl h
  · exact .inr ⟨g, sp, e, hg, ho.row hr hg⟩
theorem NxAt.at_ (h : NxAt w base A xs) {i j : Nat} (hx : xs[i]? = some j) : ∃ g, A = some ⟨g, 0, none⟩ ∧ w.cell? ⟨g, i, none⟩ = some (.int .i64 (j : Int)) := by
  rcases h with rfl | ⟨g, sp, e, hg, hr⟩
  · cases hx
  · refine ⟨g, e, hr.cell ?_⟩
    have hc : (cellsI (toI xs))[i]? = some (.int .i64 (j : Int)) := by rw [cellsI, List.getElem?_map, toI_get, hx]; rfl
    rw [List.getElem?_append_left (List.getElem?_eq_some_iff.1 hc).1]
    exact hc
end
end Go.Proofs.YtidlnecgfgnllaaDoor
end

section
/-
  Rows of lists of ints in memory: one that can be read (Ann), one that a call made (Anw), one that a call hands back (AnPost). No function of the program is named here.
-/
namespace Go.Proofs.YtidlnecgfgnllaaDoor
open Go.RowKit

/-- At A stand n slices; slice i holds the ints of list i. -/
structure Ann (w : World) (A : Option Addr) (n : Nat) (zss : List (List Int)) : Prop where
  len : zss.length = n
  le : n ≤ 1048576
  see : ∃ vs : List Value, Sees w w.heap.size A vs ∧ vs.length = n ∧ ∀ (i : Nat) (v : Value) (zs : List Int), vs[i]? = some v → zss[i]? = some zs → ∃ (A' : Option Addr) (c' : Nat), v = .slice A' zs.length c' ∧ Lst w A' zs.length zs ∧ (A' = none → c' = 0)
theorem Ann.below {w w' : World} {A : Option Addr} {n : Nat} {zss : List (List Int)} (h : Ann w A n zss) (hb : Below w.heap.size w w') : Ann w' A n zss := by
  obtain ⟨h1, h2, vs, h3, h4, h5⟩ := h
  refine ⟨h1, h2, vs, (h3.below hb).more hb.size, h4, fun i v zs hv hz => ?_⟩
  obtain ⟨A', c', e, hl, hn⟩ := h5 i v zs hv hz
  exact ⟨A', c', e, hl.below hb, hn⟩
theorem Ann.drewN {w : World} {A : Option Addr} {n : Nat} {zss : List (List Int)} (h : Ann w A n zss) (k : Nat) : Ann (w.drewN k) A n zss := h.below (below_draws (Below.refl _ _) k)
/-- List i can be read. -/
theorem Ann.at_ {w : World} {A : Option Addr} {n : Nat} {zss : List (List Int)} (h : Ann w A n zss) {i : Nat} (hi : i < n) :
    ∃ (b off : Nat) (A' : Option Addr) (c' : Nat), A = some ⟨b, off, none⟩ ∧ b < w.heap.size ∧ w.cell? ⟨b, off + i, none⟩ = some (.slice A' (zss.getD i []).length c') ∧ Lst w A' (zss.getD i []).length (zss.getD i []) ∧ (A' = none → c' = 0) := by
  obtain ⟨h1, h2, vs, h3, h4, h5⟩ := h
  have hv := List.getElem?_eq_getElem (show i < vs.length by omega)
  have hz := List.getElem?_eq_getElem (show i < zss.length by omega)
  obtain ⟨A', c', e, hl, hn⟩ := h5 i _ _ hv hz
  obtain ⟨b, off, e2, hb, hc⟩ := h3 i _ hv
  rw [e] at hc
  have e3 : zss.getD i [] = zss[i] := by rw [List.getD_eq_getElem?_getD, hz]; rfl
  rw [e3]
  exact ⟨b, off, A', c', e2, hb, hc, hl, hn⟩
def IntOk (zs : List Int) : Prop := ∀ z ∈ zs, -9223372036854775808 ≤ z ∧ z ≤ 9223372036854775807
theorem IntOk.asc {zs : List Int} (h : Asc zs) : IntOk zs := fun z hz => by have := h.2 z hz; omega
theorem lst_own {w : World} {base : Nat} {A : Option Addr} {c : Nat} {zs : List Int} (h : w.ownsRow base 3 1 (.slice A zs.length c) zs.length (cellsI zs)) (hr : IntOk zs) : Lst w A zs.length zs := by
  obtain ⟨A', c', e, -, hm⟩ := own_form h
  injection e with e1 e2 e3
  exact ⟨rfl, by unfold maxLen at hm; omega, Sees.ownN h, hr⟩

/-- Block g holds the slices vs (and sp behind them), the call's own; slice i holds the ints of list i. -/
structure Anw (w : World) (base g : Nat) (vs sp : List Value) (zss : List (List Int)) : Prop where
  len : vs.length = zss.length
  row : Row w g 42 (vs ++ sp)
  gb : base ≤ g
  own : ∀ (i : Nat) (v : Value) (zs : List Int), vs[i]? = some v → zss[i]? = some zs → w.ownsRow base 3 1 v zs.length (cellsI zs)
  rng : ∀ (i : Nat) (zs : List Int), zss[i]? = some zs → IntOk zs
section
variable {w w' : World} {base g : Nat} {vs sp : List Value} {zss : List (List Int)}
theorem Anw.below (h : Anw w base g vs sp zss) (hb : Below w.heap.size w w') : Anw w' base g vs sp zss :=
  ⟨h.len, h.row.call hb, h.gb, fun i v zs h1 h2 => own_below (h.own i v zs h1 h2) hb, h.rng⟩
theorem Anw.drewN (h : Anw w base g vs sp zss) (k : Nat) : Anw (w.drewN k) base g vs sp zss := ⟨h.len, h.row, h.gb, h.own, h.rng⟩
theorem Anw.lower {base' : Nat} (h : Anw w base g vs sp zss) (hb : base' ≤ base) : Anw w base' g vs sp zss :=
  ⟨h.len, h.row, Nat.le_trans hb h.gb, fun i v zs h1 h2 => own_lower (h.own i v zs h1 h2) hb, h.rng⟩
theorem Anw.make {n : Nat} (h : Row w g 42 (List.replicate n (.slice none 0 0))) (hb : base ≤ g) : Anw w base g (List.replicate n (.slice none 0 0)) [] (List.replicate n []) := by
  refine ⟨by simp, by simpa using h, hb, fun i v zs h1 h2 => ?_, fun i zs h1 z hz => ?_⟩
  · rw [List.getElem?_replicate] at h1 h2
    split at h1
    · injection h1 with h1
      rename_i hi
      rw [if_pos hi] at h2
      injection h2 with h2
      subst h1 h2
      exact World.ownsRow_nil w base 3 1
    · cases h1
  · rw [List.getElem?_replicate] at h1
    split at h1
    · injection h1 with h1
      subst h1
      simp at hz
    · cases h1
theorem Anw.vat (h : Anw w base g vs sp zss) {i : Nat} {zs : List Int} (hz : zss[i]? = some zs) : ∃ (A : Option Addr) (c : Nat), vs[i]? = some (.slice A zs.length c) ∧ w.cell? ⟨g, i, none⟩ = some (.slice A zs.length c) ∧ Lst w A zs.length zs ∧ (A = none → c = 0) ∧ w.ownsRow base 3 1 (.slice A zs.length c) zs.length (cellsI zs) := by
  have hv := List.getElem?_eq_getElem (show i < vs.length by rw [h.len]; exact (List.getElem?_eq_some_iff.1 hz).1)
  have ho := h.own i _ _ hv hz
  obtain ⟨A, c, e, hn, -⟩ := own_form ho
  rw [e] at hv ho
  exact ⟨A, c, hv, h.row.cell (by rw [List.getElem?_append_left (List.getElem?_eq_some_iff.1 hv).1]; exact hv), lst_own ho (h.rng i zs hz), hn, ho⟩
/-- List i can be read. -/
theorem Anw.at_ (h : Anw w base g vs sp zss) {i : Nat} (hi : i < zss.length) : ∃ (A : Option Addr) (c : Nat), w.cell? ⟨g, i, none⟩ = some (.slice A (zss.getD i []).length c) ∧ Lst w A (zss.getD i []).length (zss.getD i []) ∧ (A = none → c = 0) := by
  obtain ⟨A, c, -, h1, h2, h3, -⟩ := h.vat (List.getElem?_eq_getElem hi)
  have e3 : zss.getD i [] = zss[i] := by rw [List.getD_eq_getElem?_getD, List.getElem?_eq_getElem hi]; rfl
  rw [e3]
  exact ⟨A, c, h1, h2, h3⟩
theorem Anw.free (h : Anw w base g vs sp zss) (i : Nat) : w.frozen? ⟨g, i, none⟩ = false := h.row.free i
/-- List j is another one. -/
theorem Anw.put (h : Anw w base g vs sp zss) {j : Nat} {v : Value} {zs : List Int} (hj : j < zss.length) (hv : w.ownsRow base 3 1 v zs.length (cellsI zs)) (hr : IntOk zs) :
    Anw (w.setCell ⟨g, j, none⟩ v) base g (vs.set j v) sp (zss.set j zs) := by
  have hj' : j < vs.length := by rw [h.len]; exact hj
  have keep : ∀ (u : Value) (m : Nat) (cs : List Value), w.ownsRow base 3 1 u m cs → (w.setCell ⟨g, j, none⟩ v).ownsRow base 3 1 u m cs := fun u m cs q => q.kept (fgrown_set w g j v) (fown_apart q h.row fty_ne)
  refine ⟨by simpa using h.len, ?_, h.gb, fun i u ys h1 h2 => ?_, fun i ys h1 => ?_⟩
  · have := h.row.set_ j v
    rwa [List.set_append_left _ _ hj'] at this
  · rw [List.getElem?_set] at h1 h2
    by_cases e : j = i
    · rw [if_pos e, if_pos hj'] at h1
      rw [if_pos e, if_pos hj] at h2
      injection h1 with h1
      injection h2 with h2
      subst h1 h2
      exact keep _ _ _ hv
    · rw [if_neg e] at h1 h2
      exact keep _ _ _ (h.own i u ys h1 h2)
  · rw [List.getElem?_set] at h1
    by_cases e : j = i
    · rw [if_pos e, if_pos hj] at h1
      injection h1 with h1
      subst h1
      exact hr
    · rw [if_neg e] at h1
      exact h.rng i ys h1
theorem Anw.ann (h : Anw w base g vs sp zss) {n : Nat} (hn : zss.length = n) (hm : n ≤ 1048576) : Ann w (some ⟨g, 0, none⟩) n zss := by
  refine ⟨hn, hm, vs, fun k u hu => ⟨g, 0, rfl, h.row.lt, ?_⟩, by rw [h.len, hn], fun i v zs hv hz => ?_⟩
  · rw [Nat.zero_add]
    exact h.row.cell (by rw [List.getElem?_append_left (List.getElem?_eq_some_iff.1 hu).1]; exact hu)
  · have ho := h.own i v zs hv hz
    obtain ⟨A, c, rfl, hA, -⟩ := own_form ho
    exact ⟨A, c, rfl, lst_own ho (h.rng i zs hz), hA⟩
end
/-- What a function leaves that hands back a row of lists. -/
def AnPost (zss : List (List Int)) (w : World) (e : Ending) (w' : World) : Prop :=
  ∃ (g : Nat) (vs : List Value), e = .returned (.slice (some ⟨g, 0, none⟩) zss.length zss.length) ∧ Anw w' w.heap.size g vs [] zss ∧ Below w.heap.size w w'
/-- The same for an annotation. -/
def LvPost (zss : List (List Int)) (w : World) (e : Ending) (w' : World) : Prop :=
  ∃ (g c : Nat) (vs sp : List Value), e = .returned (.agg #[.slice (some ⟨g, 0, none⟩) zss.length c]) ∧ Anw w' w.heap.size g vs sp zss ∧ Below w.heap.size w w'
theorem AnPost.lift {zss : List (List Int)} {w w1 w' : World} {e : Ending} (h : AnPost zss w1 e w') (hb : Below w.heap.size w w1) : AnPost zss w e w' := by
  obtain ⟨g, vs, he, ha, hb'⟩ := h
  exact ⟨g, vs, he, ha.lower hb.size, below_call hb hb'⟩
theorem LvPost.lift {zss : List (List Int)} {w w1 w' : World} {e : Ending} (h : LvPost zss w1 e w') (hb : Below w.heap.size w w1) : LvPost zss w e w' := by
  obtain ⟨g, c, vs, sp, he, ha, hb'⟩ := h
  exact ⟨g, c, vs, sp, he, ha.lower hb.size, below_call hb hb'⟩
/-- Lists of numbers as lists of ints. -/
theorem LLs.anw {w : World} {base g : Nat} {vs : List Value} {zss : List (List Nat)} (h : LLs w base g vs zss) : Anw w base g vs [] (zss.map toI) := by
  refine ⟨by rw [List.length_map]; exact h.len, by simpa using h.row, h.gb, fun i v zs hv hz => ?_, fun i zs hz z hm => ?_⟩
  · rw [List.getElem?_map] at hz
    cases hq : zss[i]? with
    | none => rw [hq] at hz; cases hz
    | some ys =>
      rw [hq] at hz
      injection hz with hz
      subst hz
      rw [toI_len]
      exact h.own i v ys hv hq
  · rw [List.getElem?_map] at hz
    cases hq : zss[i]? with
    | none => rw [hq] at hz; cases hz
    | some ys =>
      rw [hq] at hz
      injection hz with hz
      subst hz
      obtain ⟨y, hy, rfl⟩ := List.mem_map.1 hm
      have := h.rng i ys hq y hy
      omega
end Go.Proofs.YtidlnecgfgnllaaDoor
end

section
/-
  A function whose one result is a struct that lies in a block. No function of the program is named here.
-/
namespace Go.Proofs.YtidlnecgfgnllaaDoor
open Go.RowKit

theorem results_cell1 {fn : Func} {t : Tmp} {T : TypeId} (h : fn.results = #[.cell t T]) (tmps : Array Value) (w : World) (g o : Nat) (v : Value) (ht : tmps.getD t undef = .pointer (some ⟨g, o, none⟩)) (hl : (Instr.loadAt T (.pointer (some ⟨g, o, none⟩))).run Tryd.prog w = .ok v w) :
    (results fn tmps).run Tryd.prog w = .ok v w := by
  have hl2 : (loadVar T ⟨g, o, none⟩).run Tryd.prog w = .ok v w := by
    rw [← hl]
    simp [Instr.loadAt, Instr.sureAddr]
  have ht3 : tmps[t]?.getD undef = .pointer (some ⟨g, o, none⟩) := by rw [← ht]; simp
  have hm : (results fn tmps).run Tryd.prog w = ((loadVar T ⟨g, o, none⟩).run Tryd.prog w).andThen fun v w => .ok v w := by
    simp [results, h, ht3, asAddr]
    cases (loadVar T ⟨g, o, none⟩).run Tryd.prog w <;> rfl
  rw [hm, hl2]
  rfl
end Go.Proofs.YtidlnecgfgnllaaDoor
end

section
/-
  Structs loaded and stored whole; a function whose first result lies in a cell, and whose second is a slot: what it returns. No function of the program is named here.
-/
namespace Go.Proofs.YtidlnecgfgnllaaDoor
open Go.RowKit

section
variable {w : World} {g t T : Nat} {cs vs : List Value}
theorem set_row_row (h : Row w g t cs) : Row (w.setRow g vs.toArray) g t vs := setRow_heap w g _ _ t _ h
theorem set_row_grown (w : World) (g : Nat) (c : Array Value) : w.grownBy (w.setRow g c) (some g) := ⟨rfl, rfl, rfl, by simp [World.setRow], fun i _ hi => by
  have : g ≠ i := fun e => hi (by rw [e])
  simp [World.setRow, Array.getElem?_modify, this]⟩
theorem load_run {n o : Nat} (ha : (isAgg T).run Tryd.prog w = .ok true w) (hs : (sizeOf T).run Tryd.prog w = .ok n w) (hl : cs.length = n) (hc : ∀ j v, cs[j]? = some v → w.cell? ⟨g, o + j, none⟩ = some v) : (Instr.loadAt T (.pointer (some ⟨g, o, none⟩))).run Tryd.prog w = .ok (.agg cs.toArray) w := by
  subst hl
  have hq := run_loadCells_list (P := Tryd.prog) w ⟨g, o, none⟩ cs (fun j v hj => by
    rw [show (⟨g, o, none⟩ : Addr).add j = ⟨g, o + j, none⟩ by unfold Addr.add; split <;> simp_all]
    exact hc j v hj)
  simp only [Instr.loadAt, Instr.sureAddr, loadVar, Sem.run_bind, Sem.run_pure, Result.andThen, ha, hs, hq, if_true]
theorem load_row {n : Nat} (ha : (isAgg T).run Tryd.prog w = .ok true w) (hs : (sizeOf T).run Tryd.prog w = .ok n w) (hl : cs.length = n) (h : Row w g t cs) : (Instr.loadAt T (.pointer (some ⟨g, 0, none⟩))).run Tryd.prog w = .ok (.agg cs.toArray) w :=
  load_run ha hs hl (fun j v hj => by rw [Nat.zero_add]; exact h.cell hj)
theorem store_row {n : Nat} (hs : (sizeOf T).run Tryd.prog w = .ok n w) (hl : vs.length = n) (hl2 : cs.length = n) (h1 : ∀ v ∈ vs, v.oneCell' = true) (h : Row w g t cs) : (Instr.storeAt T (.pointer (some ⟨g, 0, none⟩)) (.agg vs.toArray)).run Tryd.prog w = .ok () (w.setRow g vs.toArray) := by
  subst hl
  have hq := run_storeCells_from (P := Tryd.prog) g t vs 0 cs.toArray w h (by simp [hl2]) h1
  simp only [List.take_zero, List.nil_append] at hq
  simp only [Instr.storeAt, Instr.sureAddr, storeVar, Sem.run_bind, Sem.run_pure, Result.andThen, hs]
  simp [Value.cells, hq]
end
theorem wpList_load_whole {P : Program} {w : World} {ops : Array Oper} {rest : List Oper} {o : Oper} {a : Act} {Q : Exit → Act → World → Prop} (t : TypeId) (x : Operand) (hop : o.op = .load t x) (hg : o.guard = none) (c : Array Value) (p : Value) (hp : a.eval x = p)
    (hrun : (Instr.loadAt t p).run P w = .ok (.agg c) w) (hK : wpList P ops Q rest (a.put o.dst (.agg c)) w) : wpList P ops Q (o :: rest) a w := by
  refine wpList_plain hg fun K' hK' => ?_
  unfold Oper.wp
  simp only [hop, hp, execOp, Sem.run_bind, hrun, Result.andThen, Sem.run_pure]
  exact hK' _ _ hK
theorem wpList_store_whole {P : Program} {w w' : World} {ops : Array Oper} {rest : List Oper} {o : Oper} {a : Act} {Q : Exit → Act → World → Prop} (t : TypeId) (x y : Operand) (hop : o.op = .store t x y) (hg : o.guard = none) (p v : Value) (hp : a.eval x = p) (hv : a.eval y = v)
    (hrun : (Instr.storeAt t p v).run P w = .ok () w') (hK : wpList P ops Q rest (a.put o.dst undef) w') : wpList P ops Q (o :: rest) a w := by
  refine wpList_plain hg fun K' hK' => ?_
  unfold Oper.wp
  simp only [hop, hp, hv, execOp, Sem.run_bind, hrun, Result.andThen, Sem.run_pure]
  exact hK' _ _ hK
theorem results_cell_tmp {fn : Func} {t u : Tmp} {T : TypeId} (h : fn.results = #[.cell t T, .tmp u]) (tmps : Array Value) (w : World) (g o : Nat) (v : Value) (ht : tmps.getD t undef = .pointer (some ⟨g, o, none⟩)) (hl : (Instr.loadAt T (.pointer (some ⟨g, o, none⟩))).run Tryd.prog w = .ok v w) :
    (results fn tmps).run Tryd.prog w = .ok (.tuple #[v, tmps.getD u undef]) w := by
  have hl2 : (loadVar T ⟨g, o, none⟩).run Tryd.prog w = .ok v w := by
    rw [← hl]
    simp [Instr.loadAt, Instr.sureAddr]
  have ht3 : tmps[t]?.getD undef = .pointer (some ⟨g, o, none⟩) := by rw [← ht]; simp
  have hm : (results fn tmps).run Tryd.prog w = ((loadVar T ⟨g, o, none⟩).run Tryd.prog w).andThen fun v w => .ok (.tuple #[v, tmps.getD u undef]) w := by
    simp [results, h, ht3, asAddr]
  rw [hm, hl2]
  rfl
end Go.Proofs.YtidlnecgfgnllaaDoor
end

section
/-
  An annotation by value, in a block. Conditions: those of the types.
-/
namespace Go.Proofs.YtidlnecgfgnllaaDoor
open Go.RowKit

theorem agg_live {w : World} : (isAgg 25).run Tryd.prog w = .ok true w := by kernel_rfl
theorem size_live {w : World} : (sizeOf 25).run Tryd.prog w = .ok 1 w := by kernel_rfl
/-- A store into a block of another type. -/
theorem Anw.farc {w : World} {base g ty : Nat} {vs sp : List Value} {zss : List (List Int)} {p : Addr} {cs : List Value} {u : Value} (h : Anw w base g vs sp zss) (hr : Row w p.block ty cs) (hp : p.spot = none) (h1 : 42 ≠ ty) (h2 : ty ≠ 3) : Anw (w.setCell p u) base g vs sp zss := by
  obtain ⟨b, k, o⟩ := p
  obtain rfl : o = none := hp
  exact ⟨h.len, h.row.far (p := ⟨b, k, none⟩) (h.row.ne_ hr h1) _, h.gb, fun i v zs hv hz => (h.own i v zs hv hz).kept (fgrown_set w b k u) (fown_apart (h.own i v zs hv hz) hr h2), h.rng⟩
end Go.Proofs.YtidlnecgfgnllaaDoor
end
