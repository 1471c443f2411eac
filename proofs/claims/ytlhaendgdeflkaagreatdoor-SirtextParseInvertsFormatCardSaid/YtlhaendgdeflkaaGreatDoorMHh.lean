import Derived.Test.YtlhaendgdeflkaaGreatDoorMHg
import Derived.Test.YtlhaendgdeflkaaGreatDoorMGw
import Derived.Test.YtlhaendgdeflkaaGreatDoorMPrsame
import Derived.Test.YtlhaendgdeflkaaGreatDoorMTlaid
import Derived.Test.YtlhaendgdeflkaaGreatDoorMGt
import Derived.HandedShaped
import Derived.Shelf.Vars
import Derived.Stop.LaidErr
set_option linter.unusedVariables false
set_option linter.unusedSimpArgs false
section
/-
  What the laws of Parse ask of the memory (chapter 7). Conditions: none.
-/
namespace Go.Proofs.YtlhaendgdeflkaaGreatDoor
open Go.RowKit

/-- What the laws of Parse ask of the memory. -/
structure Tabz (w : World) : Prop where
  m : MaxL w
  e : ErrR w
  t : Synt w
  s : Shapes w
theorem Tabz.below {w w' : World} (h : Tabz w) (hb : Below w.heap.size w w') : Tabz w' := ⟨h.m.below hb, h.e.below hb, h.t.below hb, h.s.below hb⟩
theorem dtp_any (s : List UInt8) (w : World) (hs1 : s.length ≤ 100000000) (h : Hid (Tabz w)) : Calls Tryz.prog 10 #[.string ⟨s.toArray⟩] w (PtPost s w) :=
  dtparse_any s w hs1 (hide h.out.m) (hide h.out.e) (hide h.out.t) (hide h.out.s)

end Go.Proofs.YtlhaendgdeflkaaGreatDoor
end

section
/-
  What the rows of Parse give the walks: the listed sentinel strconv.ErrRange, the library's greatest length out of the world's shape; a row's wrap that hands on both a condition on the world and its shape.
-/
namespace Go.Proofs.YtlhaendgdeflkaaGreatDoor
open Go.ChangeShapes Go.WideShapes Go.ChangeAt Go.RowKit Go.Joins Go.Deep

theorem handed_and_shaped {H : Type} {enc : TypeId × Value → H} {a : Assume} {C : Checked} {os : Os} {f : FuncId} {fn : Func} {s : ChangeSpec} {conds : List PathCond} {apart fresh handsOn again : Bool} {X : World → Array Value → Prop}
    (hX : ∀ (w w' : World) (args : Array Value), w.heap = w'.heap → X w args → X w' args)
    (own : ownKnob C.prog.godebug = none) (started : os.Started) (noInit : C.prog.inits.idxOf? f = none) (hfn : C.prog.funcs[f]? = some fn)
    (witness : ∃ (w : World) (tape : Tape) (i : Input), w.os = os ∧ (w.forCall tape i).Shaped C.prog ∧ i.vars = [] ∧ Input.okWide C.prog (w.forCall tape i) .any w.heap.size f i ∧
      ((s.pre enc C.prog fn conds apart (w.forCall tape i).memory i.args ∧ X (w.forCall tape i).memory i.args) ∧ sizedMet enc C.prog fn (OpenSpec.ofChange s) apart (w.forCall tape i).memory i.args) ∧ a.holds C.prog (lone (Frame.enter C.prog f i.args .normal) [] (w.forCall tape i)))
    (contract : ∀ (W : World) (base : Nat) (args : Array Value) (ds gs : List (DataW H)) (before : List MemPlace),
      (∀ (j : Nat) t v, fn.params[j]? = some t → args[j]? = some v → Value.okWide C.prog W .any base t v) →
      DataW.Whole enc C.prog fn.params.toList s.vars apart W args.toList ds gs before → X W args → W.ShapedOpen C.prog →
      Calls C.prog f args W fun e W' => ∃ v, e = .returned v ∧ s.post enc C.prog fn apart fresh handsOn again W args v W') :
    ReturnsInHanded a C os f .any (fun w args => (s.pre enc C.prog fn conds apart w args ∧ X w args) ∧ sizedMet enc C.prog fn (OpenSpec.ofChange s) apart w args) (s.post enc C.prog fn apart fresh handsOn again) := by
  refine returnsInHanded_of_calls own started noInit witness ?_
  intro w tape i _ hsh _ hok hpre _
  obtain ⟨_, _, _, fn', hfn', _, _, _, _, hval⟩ := hok
  have e : fn' = fn := Option.some.inj (hfn'.symm.trans hfn)
  subst e
  obtain ⟨⟨⟨ds, gs, before, hw, _⟩, hx⟩, _⟩ := hpre
  have hw' := DataW.Whole.of_heap (w' := w.forCall tape i) (by rfl) hw
  refine (contract (w.forCall tape i) w.heap.size i.args ds gs before hval hw' (hX _ _ _ (by rfl) hx) hsh).mono fun e W' ⟨v, he, hp⟩ => ?_
  subst he
  exact ChangeSpec.post_blind hp
theorem maxl_of_shaped {W : World} (hsh : W.ShapedOpen Tryz.prog) : MaxL W :=
  cell_of_shapedOpen_int (P := Tryz.prog) (g := 1) (t := 3) (zero := #[.int .i64 0]) hsh (of_decide_eq_true (by kernel_rfl)) (by kernel_rfl) rfl (by kernel_rfl) (by kernel_rfl) Tryz.underlying3
theorem es_star : "*" ++ "errors.errorString" = "*errors.errorString" := by decide
theorem es_row (u : TypeId) (h : Tryz.prog.typeName? 3 u = some "*errors.errorString") : u = 181 :=
  typeName_ptr_named (nm := "errors.errorString") (by rw [es_star]; kernel_rfl) (by kernel_rfl) (by decide) u (by rw [es_star]; exact h)
theorem gER : Tryz.prog.globalNamed "strconv.ErrRange" = some 7 := by kernel_rfl
theorem tER : (Tryz.prog.globals[7]?).map (·.type) = some 103 := by kernel_rfl
theorem er_of_head {W : World} {rest : List (String × DataW Unit)} (h : laidMet Tryz.prog (("strconv.ErrRange", Rows.laid_strconv_ErrRange) :: rest) W) : ErrR W := by
  unfold Rows.laid_strconv_ErrRange at h
  obtain ⟨a, s, hv, _⟩ := laid_sentinel h gER tER Tryz.underlying103 es_row Tryz.underlying181 Tryz.underlying183 rfl rfl Tryz.underlying9 (by kernel_rfl) (by kernel_rfl)
  exact ⟨_, _, by have := World.var?_cell gER hv 0; simpa using this⟩
end Go.Proofs.YtlhaendgdeflkaaGreatDoor
end
