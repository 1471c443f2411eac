import Derived.Test.YtebebodkgffkaaaDoorMGp
import Derived.ProofKit
import Derived.LaidMore
import Derived.OpenShut
import Derived.Stop.Joined
import Derived.MakeChecks
import Derived.LaidHandle
import Derived.Lib.LaidTab
import Derived.Lib.SmallJoins
set_option linter.unusedVariables false
set_option linter.unusedSimpArgs false
section
/-
  The listed table of the shapes of instructions: where it is listed it lies as its initialiser lays it. Conditions: none.
-/
namespace Go.Proofs.YtebebodkgffkaaaDoor
open Go.ChangeShapes Go.WideShapes Go.ChangeAt Go.RowKit Go.Joins

section
variable {H : Type} {enc : TypeId × Value → H} {P : Program} {w : World} {base : Nat} {sp : Nat → Bool} {held : Bool}
/-- A struct of three ints and a bool. -/
theorem cells_of_four {e : TypeId} {f0 f1 f2 f3 : Field} {fuel : Nat} {cs : List Value} {p : List MemPlace} {a b c : Int} {d : Bool} (he : P.underlying e = some (.struct #[f0, f1, f2, f3])) (o0 : f0.offset = 0) (o1 : f1.offset = 1) (o2 : f2.offset = 2) (o3 : f3.offset = 3)
    (k0 : P.cellsOf f0.type = 1) (k1 : P.cellsOf f1.type = 1) (k2 : P.cellsOf f2.type = 1) (k3 : P.cellsOf f3.type = 1)
    (u0 : P.underlying f0.type = some (.int .i64)) (u1 : P.underlying f1.type = some (.int .i64)) (u2 : P.underlying f2.type = some (.int .i64)) (u3 : P.underlying f3.type = some .bool) (hl : cs.length = 4)
    (h : DataW.trod enc P w base sp held fuel e cs = some (.agg [.lit (.int .i64 a), .lit (.int .i64 b), .lit (.int .i64 c), .lit (.bool d)], p)) : cs = [.int .i64 a, .int .i64 b, .int .i64 c, .bool d] := by
  obtain ⟨ys, n, _, hx, _, hyl, hg⟩ := DataW.trod_struct he h
  match cs, hl with
  | [c0, c1, c2, c3], _ =>
    have g0 := hg 0 f0 rfl
    have g1 := hg 1 f1 rfl
    have g2 := hg 2 f2 rfl
    have g3 := hg 3 f3 rfl
    rw [o0, k0] at g0
    rw [o1, k1] at g1
    rw [o2, k2] at g2
    rw [o3, k3] at g3
    match ys, hyl with
    | [y0, y1, y2, y3], _ =>
      obtain ⟨n0, e0, x0, _⟩ := DataW.trod_int (x := y0) u0 (by simpa using g0)
      obtain ⟨n1, e1, x1, _⟩ := DataW.trod_int (x := y1) u1 (by simpa using g1)
      obtain ⟨n2, e2, x2, _⟩ := DataW.trod_int (x := y2) u2 (by simpa using g2)
      obtain ⟨n3, e3, x3⟩ := DataW.trod_bool (x := y3) u3 (by simpa using g3)
      simp only [Prod.mk.injEq] at hx
      have hd := hx.1
      subst x0 x1 x2 x3
      simp only [List.map_cons, List.map_nil, DataW.agg.injEq, List.cons.injEq, DataW.lit.injEq, Lit.int.injEq, Lit.bool.injEq, true_and, and_true] at hd
      obtain ⟨rfl, rfl, rfl, rfl⟩ := hd
      simp only [List.cons.injEq, and_true] at e0 e1 e2 e3
      subst e0 e1 e2 e3
      rfl

/-- The datum of a row of the table. -/
def shDatum {H : Type} (s : Int × Int × Int × Bool) : DataW H := .agg [.lit (.int .i64 s.1), .lit (.int .i64 s.2.1), .lit (.int .i64 s.2.2.1), .lit (.bool s.2.2.2)]
theorem cells_of_shapes {t e : TypeId} {n : Nat} {f0 f1 f2 f3 : Field} {fuel : Nat} {cs : List Value} {p : List MemPlace} {l : List (Int × Int × Int × Bool)} (ht : P.underlying t = some (.array n e)) (he : P.underlying e = some (.struct #[f0, f1, f2, f3])) (hce : P.cellsOf e = 4)
    (o0 : f0.offset = 0) (o1 : f1.offset = 1) (o2 : f2.offset = 2) (o3 : f3.offset = 3) (k0 : P.cellsOf f0.type = 1) (k1 : P.cellsOf f1.type = 1) (k2 : P.cellsOf f2.type = 1) (k3 : P.cellsOf f3.type = 1)
    (u0 : P.underlying f0.type = some (.int .i64)) (u1 : P.underlying f1.type = some (.int .i64)) (u2 : P.underlying f2.type = some (.int .i64)) (u3 : P.underlying f3.type = some .bool) (hct : P.cellsOf t = n * 4)
    (h : DataW.trod enc P w base sp held fuel t cs = some (.agg (l.map shDatum), p)) : cs = l.flatMap shCell := by
  cases fuel with
  | zero => simp [DataW.trod] at h
  | succ fuel =>
    simp only [DataW.trod, ht, hce, hct] at h
    split at h
    · rename_i hl
      obtain ⟨xs, hm, hx⟩ := Option.map_eq_some_iff.1 h
      have hxs : xs.map (·.1) = l.map shDatum := by
        have := congrArg Prod.fst hx
        simpa using this
      have hxl : xs.length = n := by simpa using Lib.mapM_length hm
      have hll : l.length = n := by
        have := congrArg List.length hxs
        simp at this
        omega
      have hfl : (l.flatMap shCell).length = n * 4 := by rw [flat_len shCell_len, hll]
      have key : ∀ i (hi : i < n), (cs.drop (i * 4)).take 4 = shCell (l[i]'(by omega)) := fun i hi => by
        obtain ⟨b, hb, hf⟩ := Lib.mapM_at hm i i (by simp [hi])
        have h2 : (xs.map (·.1))[i]? = some b.1 := by simp [hb]
        rw [hxs, List.getElem?_map, List.getElem?_eq_getElem (by omega)] at h2
        simp only [Option.map_some, Option.some.injEq] at h2
        obtain ⟨b1, b2⟩ := b
        simp only at h2
        subst h2
        exact cells_of_four he o0 o1 o2 o3 k0 k1 k2 k3 u0 u1 u2 u3 (by simp; omega) hf
      apply List.ext_getElem?
      intro j
      by_cases hj : j < n * 4
      · have hi : j / 4 < n := by omega
        have h4 : j % 4 < 4 := by omega
        have hk := congrArg (·[j % 4]?) (key (j / 4) hi)
        simp only [List.getElem?_take, if_pos h4, List.getElem?_drop] at hk
        rw [show j / 4 * 4 + j % 4 = j by omega] at hk
        have hf := flat_at shCell_len l (j / 4) _ (List.getElem?_eq_getElem (by omega)) (j % 4) h4
        rw [show j / 4 * 4 + j % 4 = j by omega] at hf
        rw [hk, hf]
      · rw [List.getElem?_eq_none (by omega), List.getElem?_eq_none (by omega)]
    · cases h
end

theorem gTab : Tryd.prog.globalNamed "spillframe/sir.shapes" = some 0 := by kernel_rfl
theorem tTab : (Tryd.prog.globals[0]?).map (·.type) = some 115 := by kernel_rfl
theorem laid_tab : (Rows.laid_spillframe_sir_shapes : DataW Unit) = .agg (shp.map shDatum) := rfl
theorem shapes_of_head {W : World} {rest : List (String × DataW Unit)} (h : laidMet Tryd.prog (("spillframe/sir.shapes", Rows.laid_spillframe_sir_shapes) :: rest) W) : Shapes W := by
  rw [laid_tab] at h
  obtain ⟨ps, ⟨g', t', cs, fuel, p, q, hg', ht', hvar, hd, _, _⟩, _⟩ := h
  obtain rfl := Option.some.inj (gTab.symm.trans hg')
  obtain rfl := Option.some.inj (tTab.symm.trans ht')
  have hc := cells_of_shapes Tryd.underlying115 Tryd.underlying114 (by kernel_rfl) rfl rfl rfl rfl (by kernel_rfl) (by kernel_rfl) (by kernel_rfl) (by kernel_rfl) Tryd.underlying112 Tryd.underlying112 Tryd.underlying112 Tryd.underlying4 (by kernel_rfl) hd
  intro j u hj
  have := World.var?_cell gTab hvar j
  rw [this, ← Array.getElem?_toList, hc]
  exact hj
end Go.Proofs.YtebebodkgffkaaaDoor
end
