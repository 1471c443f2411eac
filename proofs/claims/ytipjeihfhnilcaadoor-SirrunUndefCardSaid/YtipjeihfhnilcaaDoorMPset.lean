import Derived.Test.YtipjeihfhnilcaaDoorMEpw
import Derived.Test.YtipjeihfhnilcaaDoorMKit
import Derived.Laws.OwnMore
set_option linter.unusedVariables false
set_option linter.unusedSimpArgs false
section
/-
  Programs of which one function has been changed: in memory, and as lists. No function of the program is named here.
-/
namespace Go.Proofs.YtipjeihfhnilcaaDoor
open Go.RowKit

section
variable {w w' : World} {lo lo' B B' n c n' c' i : Nat} {A A' : Option Addr} {hs : List Hd} {F : Pg} {h : Hd} {f : Fn}
/-- One head set anew. -/
theorem PgAt.set (H : PgAt w lo B A n c hs F) (hk : ∀ p : Addr, lo ≤ p.block → p.block < B → w'.cell? p = w.cell? p) (hB : B ≤ B') (hlo : lo' ≤ lo) (hcap : Cap A' n c') (hfar : Far lo' A') (hs' : Sees w' B' A' (hcells (hs.set i h))) (hh : HdAt w' lo' B' h f) : PgAt w' lo' B' A' n c' (hs.set i h) (F.set i f) := by
  refine ⟨by rw [List.length_set]; exact H.len, hcap, hfar, hs', ⟨by rw [List.length_set, List.length_set]; exact H.hd.len, fun k h2 f2 e1 e2 => ?_⟩⟩
  by_cases e : i = k
  · subst e
    have l1 : i < hs.length := by
      rcases Nat.lt_or_ge i hs.length with h1 | h1
      · exact h1
      · rw [List.getElem?_eq_none (by rw [List.length_set]; exact h1)] at e1; cases e1
    have l2 : i < F.length := by rw [← H.hd.len]; exact l1
    rw [List.getElem?_set_self l1] at e1
    rw [List.getElem?_set_self l2] at e2
    injection e1 with e1
    injection e2 with e2
    subst e1 e2
    exact hh
  · rw [List.getElem?_set_ne e] at e1 e2
    exact ((H.hd.at_ k h2 f2 e1 e2).keep hk).more hB hlo
end

/-- The stores of heads into a row of heads. -/
theorem hset2 (hs : List Hd) (i : Nat) (h : Hd) (hx : hs[i]? = some h) (A : Option Addr) (n c : Nat) : (hcells hs).set (i * 3 + 2) (.slice A n c) = hcells (hs.set i ⟨h.p, h.a1, h.n1, h.c1, A, n, c⟩) := flat_set hcell_len hs i h _ hx 2 (by omega) _ rfl
/-- An instruction changed. -/
theorem iset0 {ys : List Ins} {k : Nat} {x : Ins} (hx : ys[k]? = some x) (t : Int) : (icells ys).set (k * 5) (.int .i64 t) = icells (ys.set k ⟨t, x.a, x.b, x.c, x.imm⟩) := flat_set icell_len ys k x _ hx 0 (by omega) _ rfl
theorem iset1 {ys : List Ins} {k : Nat} {x : Ins} (hx : ys[k]? = some x) (t : Int) : (icells ys).set (k * 5 + 1) (.int .i64 t) = icells (ys.set k ⟨x.op, t, x.b, x.c, x.imm⟩) := flat_set icell_len ys k x _ hx 1 (by omega) _ rfl
theorem iset2 {ys : List Ins} {k : Nat} {x : Ins} (hx : ys[k]? = some x) (t : Int) : (icells ys).set (k * 5 + 2) (.int .i64 t) = icells (ys.set k ⟨x.op, x.a, t, x.c, x.imm⟩) := flat_set icell_len ys k x _ hx 2 (by omega) _ rfl
theorem iset3 {ys : List Ins} {k : Nat} {x : Ins} (hx : ys[k]? = some x) (t : Int) : (icells ys).set (k * 5 + 3) (.int .i64 t) = icells (ys.set k ⟨x.op, x.a, x.b, t, x.imm⟩) := flat_set icell_len ys k x _ hx 3 (by omega) _ rfl
theorem iset4 {ys : List Ins} {k : Nat} {x : Ins} (hx : ys[k]? = some x) (t : Int) : (icells ys).set (k * 5 + 4) (.int .u64 t) = icells (ys.set k ⟨x.op, x.a, x.b, x.c, t⟩) := flat_set icell_len ys k x _ hx 4 (by omega) _ rfl
/-- The cells of an element of an owned row. -/
theorem ins_row {w : World} {base G n c : Nat} {t : TypeId} {ys : List Ins} {k : Nat} {x : Ins} (h : w.ownsRow base t 5 (.slice (some ⟨G, 0, none⟩) n c) n (icells ys)) (hx : ys[k]? = some x) :
    (w.cell? ⟨G, k * 5, none⟩ = some (.int .i64 x.op) ∧ w.cell? ⟨G, k * 5 + 1, none⟩ = some (.int .i64 x.a) ∧ w.cell? ⟨G, k * 5 + 2, none⟩ = some (.int .i64 x.b) ∧ w.cell? ⟨G, k * 5 + 3, none⟩ = some (.int .i64 x.c) ∧ w.cell? ⟨G, k * 5 + 4, none⟩ = some (.int .u64 x.imm)) ∧ ∀ j, w.frozen? ⟨G, j, none⟩ = false := by
  have g := fun j hj => flat_at icell_len ys k _ hx j hj
  have c' := fun j u (hu : (icells ys)[j]? = some u) => (by
    have := h.cells (g := G) rfl j u hu
    rwa [WideShapes.add_plain, Nat.zero_add] at this : w.cell? ⟨G, j, none⟩ = some u)
  exact ⟨⟨c' _ _ (g 0 (by omega)), c' _ _ (g 1 (by omega)), c' _ _ (g 2 (by omega)), c' _ _ (g 3 (by omega)), c' _ _ (g 4 (by omega))⟩, fun j => h.frozenAt j⟩
theorem hd_row {w : World} {base G n c : Nat} {t : TypeId} {hs : List Hd} {k : Nat} {x : Hd} (h : w.ownsRow base t 3 (.slice (some ⟨G, 0, none⟩) n c) n (hcells hs)) (hx : hs[k]? = some x) :
    (w.cell? ⟨G, k * 3, none⟩ = some (.int .i64 x.p) ∧ w.cell? ⟨G, k * 3 + 1, none⟩ = some (.slice x.a1 x.n1 x.c1) ∧ w.cell? ⟨G, k * 3 + 2, none⟩ = some (.slice x.a2 x.n2 x.c2)) ∧ ∀ j, w.frozen? ⟨G, j, none⟩ = false := by
  have g := fun j hj => flat_at hcell_len hs k _ hx j hj
  have c' := fun j u (hu : (hcells hs)[j]? = some u) => (by
    have := h.cells (g := G) rfl j u hu
    rwa [WideShapes.add_plain, Nat.zero_add] at this : w.cell? ⟨G, j, none⟩ = some u)
  exact ⟨⟨c' _ _ (g 0 (by omega)), c' _ _ (g 1 (by omega)), c' _ _ (g 2 (by omega))⟩, fun j => h.frozenAt j⟩
theorem hset3 (hs : List Hd) (i : Nat) (h h' : Hd) (hx : hs[i]? = some h) : (((hcells hs).set (i * 3) (.int .i64 h'.p)).set (i * 3 + 1) (.slice h'.a1 h'.n1 h'.c1)).set (i * 3 + 2) (.slice h'.a2 h'.n2 h'.c2) = hcells (hs.set i h') := by
  have hk : i < hs.length := (List.getElem?_eq_some_iff.1 hx).1
  have s0 := flat_set hcell_len hs i h ⟨h'.p, h.a1, h.n1, h.c1, h.a2, h.n2, h.c2⟩ hx 0 (by omega) (.int .i64 h'.p) rfl
  have s1 := flat_set hcell_len (hs.set i ⟨h'.p, h.a1, h.n1, h.c1, h.a2, h.n2, h.c2⟩) i ⟨h'.p, h.a1, h.n1, h.c1, h.a2, h.n2, h.c2⟩ ⟨h'.p, h'.a1, h'.n1, h'.c1, h.a2, h.n2, h.c2⟩ (by rw [List.getElem?_set_self hk]) 1 (by omega) (.slice h'.a1 h'.n1 h'.c1) rfl
  have s2 := flat_set hcell_len (hs.set i ⟨h'.p, h'.a1, h'.n1, h'.c1, h.a2, h.n2, h.c2⟩) i ⟨h'.p, h'.a1, h'.n1, h'.c1, h.a2, h.n2, h.c2⟩ h' (by rw [List.getElem?_set_self hk]) 2 (by omega) (.slice h'.a2 h'.n2 h'.c2) rfl
  rw [List.set_set] at s1 s2
  unfold hcells
  rw [Nat.add_zero] at s0
  rw [s0, s1, s2]
end Go.Proofs.YtipjeihfhnilcaaDoor
end

section
/-
  What the program says of the type int. No function of the program is named here.
-/
namespace Go.Proofs.YtipjeihfhnilcaaDoor
open Go.RowKit

theorem Tryd.info3 : (Tryd.prog.info? 3).map (fun i => (i.zero, i.size, i.bytes)) = some (some (.int .i64 0), 1, 8) := by kernel_rfl
end Go.Proofs.YtipjeihfhnilcaaDoor
end
