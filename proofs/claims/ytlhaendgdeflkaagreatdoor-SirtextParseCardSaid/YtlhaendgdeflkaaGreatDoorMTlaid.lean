import Derived.Test.YtlhaendgdeflkaaGreatDoorMTinstr
import Derived.Test.YtlhaendgdeflkaaGreatDoorMGt
import Derived.ProofKit
import Derived.LaidMore
import Derived.OpenShut
import Derived.Stop.Joined
import Derived.Stop.LaidErr
import Derived.MakeChecks
import Derived.LaidHandle
import Derived.Lib.LaidTab
import Derived.Lib.SmallJoins
set_option linter.unusedVariables false
set_option linter.unusedSimpArgs false
section
/-
  What the listed tables of the rows of chapter 7 give the walks: they lie in their variables as their initialisers lay them; a world in which they do; what an instruction that came in gives.
-/
namespace Go.Proofs.YtlhaendgdeflkaaGreatDoor
open Go.ChangeShapes Go.WideShapes Go.ChangeAt Go.RowKit Go.Joins Go.Deep

section
variable {H : Type} {enc : TypeId × Value → H} {P : Program} {w : World} {base : Nat} {sp : Nat → Bool} {held : Bool}
/-- A struct of two strings. -/
theorem cells_of_two_strings {e : TypeId} {f0 f1 : Field} {fuel : Nat} {cs : List Value} {p : List MemPlace} {a b : List UInt8} (he : P.underlying e = some (.struct #[f0, f1])) (o0 : f0.offset = 0) (o1 : f1.offset = 1)
    (k0 : P.cellsOf f0.type = 1) (k1 : P.cellsOf f1.type = 1) (u0 : P.underlying f0.type = some .string) (u1 : P.underlying f1.type = some .string) (hl : cs.length = 2)
    (h : DataW.trod enc P w base sp held fuel e cs = some (.agg [.lit (.string a), .lit (.string b)], p)) : cs = [.string ⟨a.toArray⟩, .string ⟨b.toArray⟩] := by
  obtain ⟨ys, n, _, hx, _, hyl, hg⟩ := DataW.trod_struct he h
  match cs, hl with
  | [c0, c1], _ =>
    have g0 := hg 0 f0 rfl
    have g1 := hg 1 f1 rfl
    rw [o0, k0] at g0
    rw [o1, k1] at g1
    match ys, hyl with
    | [y0, y1], _ =>
      obtain ⟨n0, e0, x0, _⟩ := DataW.trod_string (x := y0) u0 (by simpa using g0)
      obtain ⟨n1, e1, x1, _⟩ := DataW.trod_string (x := y1) u1 (by simpa using g1)
      simp only [Prod.mk.injEq] at hx
      have hd := hx.1
      subst x0 x1
      simp only [List.map_cons, List.map_nil, DataW.agg.injEq, List.cons.injEq, DataW.lit.injEq, Lit.string.injEq, and_true] at hd
      obtain ⟨rfl, rfl⟩ := hd
      simp only [List.cons.injEq, and_true] at e0 e1
      subst e0 e1
      rfl

def syDatum {H : Type} (s : List UInt8 × List UInt8) : DataW H := .agg [.lit (.string s.1), .lit (.string s.2)]
def syCell (s : List UInt8 × List UInt8) : List Value := [.string ⟨s.1.toArray⟩, .string ⟨s.2.toArray⟩]
theorem cells_of_syntaxes {t e : TypeId} {n : Nat} {f0 f1 : Field} {fuel : Nat} {cs : List Value} {p : List MemPlace} {l : List (List UInt8 × List UInt8)} (ht : P.underlying t = some (.array n e)) (he : P.underlying e = some (.struct #[f0, f1])) (hce : P.cellsOf e = 2)
    (o0 : f0.offset = 0) (o1 : f1.offset = 1) (k0 : P.cellsOf f0.type = 1) (k1 : P.cellsOf f1.type = 1)
    (u0 : P.underlying f0.type = some .string) (u1 : P.underlying f1.type = some .string) (hct : P.cellsOf t = n * 2)
    (h : DataW.trod enc P w base sp held fuel t cs = some (.agg (l.map syDatum), p)) : l.length = n ∧ ∀ i (hi : i < l.length), cs[i * 2]? = some (.string ⟨l[i].1.toArray⟩) ∧ cs[i * 2 + 1]? = some (.string ⟨l[i].2.toArray⟩) := by
  cases fuel with
  | zero => simp [DataW.trod] at h
  | succ fuel =>
    simp only [DataW.trod, ht, hce, hct] at h
    split at h
    · rename_i hl
      obtain ⟨xs, hm, hx⟩ := Option.map_eq_some_iff.1 h
      have hxs : xs.map (·.1) = l.map syDatum := by
        have := congrArg Prod.fst hx
        simpa using this
      have hxl : xs.length = n := by simpa using Lib.mapM_length hm
      have hll : l.length = n := by
        have := congrArg List.length hxs
        simp at this
        omega
      refine ⟨hll, fun i hi => ?_⟩
      have hin : i < n := by omega
      have key : (cs.drop (i * 2)).take 2 = syCell l[i] := by
        obtain ⟨b, hb, hf⟩ := Lib.mapM_at hm i i (by simp [hin])
        have h2 : (xs.map (·.1))[i]? = some b.1 := by simp [hb]
        rw [hxs, List.getElem?_map, List.getElem?_eq_getElem hi] at h2
        simp only [Option.map_some, Option.some.injEq] at h2
        obtain ⟨b1, b2⟩ := b
        simp only at h2
        subst h2
        exact cells_of_two_strings he o0 o1 k0 k1 u0 u1 (by simp; omega) hf
      have q0 := congrArg (·[0]?) key
      have q1 := congrArg (·[1]?) key
      simp only [List.getElem?_take, List.getElem?_drop] at q0 q1
      exact ⟨by simpa [syCell] using q0, by simpa [syCell] using q1⟩
    · cases h
/-- A struct of five one-cell fields, by value, opened. -/
theorem array5 {α : Type} {cs : Array α} (h : cs.size = 5) : ∃ c0 c1 c2 c3 c4, cs = #[c0, c1, c2, c3, c4] := by
  obtain ⟨l⟩ := cs
  match l, h with
  | [c0, c1, c2, c3, c4], _ => exact ⟨c0, c1, c2, c3, c4, rfl⟩
theorem open_agg5 {r : Reach} {b0 : Nat} {t : TypeId} {f0 f1 f2 f3 f4 : Field} {v : Value} {d : DataW H} {p : List MemPlace} (hs : P.underlying t = some (.struct #[f0, f1, f2, f3, f4])) (hone : oneCellFields P #[f0, f1, f2, f3, f4] = true) (hC : P.cellsOf t = 5)
    (hv : Value.okWide P w r b0 t v) (h : DataW.Trod enc P w base sp held t v d p) :
    ∃ (v0 v1 v2 v3 v4 : Value) (y0 y1 y2 y3 y4 : DataW H × List MemPlace) (n : Nat), v = .agg #[v0, v1, v2, v3, v4] ∧ DataW.trod enc P w base sp held n f0.type [v0] = some y0 ∧ DataW.trod enc P w base sp held n f1.type [v1] = some y1 ∧
      DataW.trod enc P w base sp held n f2.type [v2] = some y2 ∧ DataW.trod enc P w base sp held n f3.type [v3] = some y3 ∧ DataW.trod enc P w base sp held n f4.type [v4] = some y4 := by
  obtain ⟨cs, rfl, hsz⟩ := okWide_struct hs hv
  obtain ⟨c0, c1, c2, c3, c4, rfl⟩ := array5 (hsz.trans hC)
  obtain ⟨fuel, hf⟩ := h
  obtain ⟨xs, n, _, _, _, hlen, hg⟩ := DataW.trod_struct hs hf
  obtain ⟨o0, k0⟩ := hone_of hone 0 f0 rfl
  obtain ⟨o1, k1⟩ := hone_of hone 1 f1 rfl
  obtain ⟨o2, k2⟩ := hone_of hone 2 f2 rfl
  obtain ⟨o3, k3⟩ := hone_of hone 3 f3 rfl
  obtain ⟨o4, k4⟩ := hone_of hone 4 f4 rfl
  match xs, hlen with
  | [y0, y1, y2, y3, y4], _ =>
    exact ⟨c0, c1, c2, c3, c4, y0, y1, y2, y3, y4, n, rfl, by simpa [Value.cells, o0, k0] using hg 0 f0 rfl, by simpa [Value.cells, o1, k1] using hg 1 f1 rfl, by simpa [Value.cells, o2, k2] using hg 2 f2 rfl,
      by simpa [Value.cells, o3, k3] using hg 3 f3 rfl, by simpa [Value.cells, o4, k4] using hg 4 f4 rfl⟩
end

theorem bounds_u8' {n : Int} (h : (Lit.int .u8 n).wf = true) : 0 ≤ n ∧ n ≤ 255 := by
  simp [Lit.wf, IntKind.min, IntKind.max, IntKind.signed, IntKind.bits] at h
  omega
set_option maxRecDepth 100000 in
theorem bounds_wu64 {n : Int} (h : (Lit.int .u64 n).wf = true) : 0 ≤ n ∧ n ≤ 18446744073709551615 := by
  simp [Lit.wf, IntKind.min, IntKind.max, IntKind.signed, IntKind.bits] at h
  omega
set_option maxRecDepth 100000 in
theorem bounds_wi64 {n : Int} (h : (Lit.int .i64 n).wf = true) : -9223372036854775808 ≤ n ∧ n ≤ 9223372036854775807 := by
  simp [Lit.wf, IntKind.min, IntKind.max, IntKind.signed, IntKind.bits] at h
  omega
set_option maxRecDepth 100000 in
theorem ins_one_cell {H : Type} {enc : TypeId × Value → H} {W : World} {base b0 : Nat} {r : Reach} {v : Value} {d : DataW H} {p : List MemPlace} {spare : Nat → Bool} {held : Bool} (f0 f1 f2 f3 f4 : Field) (hs : Tryz.prog.underlying 44 = some (.struct #[f0, f1, f2, f3, f4]))
    (h0 : f0.type = 3) (h1 : f1.type = 3) (h2 : f2.type = 3) (h3 : f3.type = 3) (h4 : f4.type = 42) (hone : oneCellFields Tryz.prog #[f0, f1, f2, f3, f4] = true)
    (hval : Value.okWide Tryz.prog W r b0 44 v) (h : DataW.Trod enc Tryz.prog W base spare held 44 v d p) : ∃ x : Ins, v = iv x.op x.a x.b x.c x.imm ∧ InsB x := by
  obtain ⟨v0, v1, v2, v3, v4, y0, y1, y2, y3, y4, n, rfl, t0, t1, t2, t3, t4⟩ := open_agg5 hs hone (by kernel_rfl) hval h
  rw [h0] at t0
  rw [h1] at t1
  rw [h2] at t2
  rw [h3] at t3
  rw [h4] at t4
  obtain ⟨a, e0, _, wa⟩ := DataW.trod_int Tryz.underlying3 t0
  obtain ⟨b, e1, _, wb⟩ := DataW.trod_int Tryz.underlying3 t1
  obtain ⟨c, e2, _, wc⟩ := DataW.trod_int Tryz.underlying3 t2
  obtain ⟨d', e3, _, wd⟩ := DataW.trod_int Tryz.underlying3 t3
  obtain ⟨m, e4, _, wm⟩ := DataW.trod_int Tryz.underlying42 t4
  simp only [List.cons.injEq, and_true] at e0 e1 e2 e3 e4
  subst e0 e1 e2 e3 e4
  have ba := bounds_wi64 wa
  have bb := bounds_wi64 wb
  have bc := bounds_wi64 wc
  have bd := bounds_wi64 wd
  have bm := bounds_wu64 wm
  exact ⟨⟨a, b, c, d', m⟩, rfl, ⟨ba.1, ba.2, bb.1, bb.2, bc.1, bc.2, bd.1, bd.2, bm.1, bm.2⟩⟩
set_option maxRecDepth 100000 in
theorem open_ins {H : Type} {enc : TypeId × Value → H} {W : World} {base b0 : Nat} {r : Reach} {v : Value} {d : DataW H} {p : List MemPlace} {spare : Nat → Bool} {held : Bool}
    (hval : Value.okWide Tryz.prog W r b0 44 v) (h : DataW.Trod enc Tryz.prog W base spare held 44 v d p) : ∃ x : Ins, v = iv x.op x.a x.b x.c x.imm ∧ InsB x :=
  ins_one_cell _ _ _ _ _ Tryz.underlying44 rfl rfl rfl rfl rfl (by kernel_rfl) hval h

theorem laid_out : laidOutB Tryz.prog = true := by kernel_rfl
theorem own_knob : ownKnob Tryz.prog.godebug = none := by kernel_rfl
theorem gP10 : Tryz.prog.globalNamed "internal/strconv.uint64pow10" = some 2 := by kernel_rfl
theorem tP10 : (Tryz.prog.globals[2]?).map (·.type) = some 145 := by kernel_rfl
theorem gSyn : Tryz.prog.globalNamed "spillframe/sirtext.syntaxes" = some 0 := by kernel_rfl
theorem tSyn : (Tryz.prog.globals[0]?).map (·.type) = some 76 := by kernel_rfl
set_option maxRecDepth 100000 in
theorem laid_p10 : (Rows.laid_internal_strconv_uint64pow10 : DataW Unit) = Lib.tabData .u64 Lib.pow10Tab := rfl
set_option maxRecDepth 100000 in
theorem laid_syn : (Rows.laid_spillframe_sirtext_syntaxes : DataW Unit) = .agg ((namesT.zip lettersT).map syDatum) := rfl
theorem p10_of_head {W : World} {rest : List (String × DataW Unit)} (h : laidMet Tryz.prog (("internal/strconv.uint64pow10", Rows.laid_internal_strconv_uint64pow10) :: rest) W) : Lib.TabIs Tryz.prog W "internal/strconv.uint64pow10" .u64 Lib.pow10Tab := by
  rw [laid_p10] at h
  exact Lib.tabIs_of_head gP10 tP10 Tryz.underlying145 Tryz.underlying42 (by kernel_rfl) (by kernel_rfl) h
set_option maxRecDepth 100000 in
theorem synt_of_head {W : World} {rest : List (String × DataW Unit)} (h : laidMet Tryz.prog (("spillframe/sirtext.syntaxes", Rows.laid_spillframe_sirtext_syntaxes) :: rest) W) : Synt W := by
  rw [laid_syn] at h
  obtain ⟨ps, ⟨g', t', cs, fuel, p, q, hg', ht', hvar, hd, _, _⟩, _⟩ := h
  obtain rfl := Option.some.inj (gSyn.symm.trans hg')
  obtain rfl := Option.some.inj (tSyn.symm.trans ht')
  obtain ⟨hl, hc⟩ := cells_of_syntaxes Tryz.underlying76 Tryz.underlying75 (by kernel_rfl) rfl rfl (by kernel_rfl) (by kernel_rfl) Tryz.underlying9 Tryz.underlying9 (by kernel_rfl) hd
  intro k hk
  obtain ⟨h0, h1⟩ := hc k (by rw [hl]; exact hk)
  have e0 := World.var?_cell gSyn hvar (k * 2)
  have e1 := World.var?_cell gSyn hvar (k * 2 + 1)
  rw [← Array.getElem?_toList] at e0 e1
  rw [e0, e1, h0, h1]
  have hz : (namesT.zip lettersT)[k]'(by rw [hl]; exact hk) = (nameT (k : Int), lettT (k : Int)) := by
    have hn : k < namesT.length := hk
    have hm : k < lettersT.length := hk
    rw [List.getElem_zip]
    unfold nameT lettT
    rw [Int.toNat_natCast, List.getD_eq_getElem?_getD, List.getD_eq_getElem?_getD, List.getElem?_eq_getElem hn, List.getElem?_eq_getElem hm]
    rfl
  rw [hz]
  exact ⟨rfl, rfl⟩
end Go.Proofs.YtlhaendgdeflkaaGreatDoor
end
