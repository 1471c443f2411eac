import Derived.Test.YtidlnecgfgnllaaDoorMKit
import Derived.Test.YtidlnecgfgnllaaDoorMOwr
import Derived.Test.YtidlnecgfgnllaaDoorMBtz
import Derived.Test.YtidlnecgfgnllaaDoorMFrows
import Derived.OpenShut
import Derived.Carry
import Derived.ProofKit
import Derived.LaidMore
import Derived.Stop.Joined
import Derived.MakeChecks
import Derived.LaidHandle
import Derived.Lib.LaidTab
import Derived.Lib.SmallJoins
import Derived.Deep.Slices
import Derived.Deep.Fields
import Derived.ChangeSame
set_option linter.unusedVariables false
set_option linter.unusedSimpArgs false
section
/-
  From the walk of a law to its row: a law that returns true and leaves all that was in memory as it was meets 'true; the input reads as it did'; what a slice of bytes that came in gives. No function of the program is named here.
-/
namespace Go.Proofs.YtidlnecgfgnllaaDoor
open Go.ChangeShapes Go.WideShapes Go.ChangeAt Go.RowKit

theorem bounds_u64 {n : Int} (h : (Lit.int .u64 n).wf = true) : 0 ≤ n ∧ n ≤ 18446744073709551615 := by
  simp [Lit.wf, IntKind.min, IntKind.max, IntKind.signed, IntKind.bits] at h
  omega

section
variable {H : Type} {enc : TypeId × Value → H} {P : Program}

theorem trodAll_after (hl : laidOutB P = true) {W W' : World} (hb : Below W.heap.size W W') : ∀ (ts : List TypeId) (vs : List Value) (ds : List (DataW H)) (ps : List MemPlace),
    (∀ t ∈ ts, P.readableRec t = true ∧ t < P.types.size) → DataW.TrodAll enc P W 0 (fun _ => true) true ts vs ds ps → (∀ x ∈ ps, x.block < W.heap.size) →
    DataW.TrodAll enc P W' 0 (fun b => decide (b < W.heap.size)) true ts vs ds ps := by
  intro ts
  induction ts with
  | nil => intro vs ds ps _ h _
           rcases vs with _ | ⟨v, vs⟩ <;> rcases ds with _ | ⟨d, ds⟩ <;> simp_all [DataW.TrodAll]
  | cons t ts ih =>
    intro vs ds ps hr h hlt
    rcases vs with _ | ⟨v, vs⟩
    · simp [DataW.TrodAll] at h
    rcases ds with _ | ⟨d, ds⟩
    · simp [DataW.TrodAll] at h
    obtain ⟨p, q, h1, h2, rfl⟩ := h
    have ht := hr t List.mem_cons_self
    exact ⟨p, q, Below.trod hl ht.1 ht.2 h1 hb (fun x hx => hlt x (List.mem_append_left _ hx)), ih vs ds q (fun t' h' => hr t' (List.mem_cons_of_mem _ h')) h2 (fun x hx => hlt x (List.mem_append_right _ hx)), rfl⟩

/-- What a law's row asks at the end. -/
theorem law_post {f : Func} {s : ChangeSpec} {apart : Bool} {W W' : World} {args : Array Value} {ds gs : List (DataW H)} {before : List MemPlace} {tb : TypeId} (hl : laidOutB P = true)
    (hp : ∀ t ∈ f.params.toList, P.readableRec t = true ∧ t < P.types.size) (hv : s.vars = []) (hr : f.resultTypes = #[tb]) (hb : P.underlying tb = some .bool)
    (hs : s.fn H ds = { results := [.lit (.bool true)], args := ds, vars := [] })
    (hW : DataW.Whole enc P f.params.toList s.vars apart W args.toList ds gs before) (hB : Below W.heap.size W W') :
    s.post enc P f apart true false false W args (.bool true) W' := by
  have hW' := hW
  obtain ⟨p, q, hA, hV, rfl, hfz, hnd⟩ := hW
  rw [hv] at hV
  obtain ⟨rfl, rfl⟩ := trodVars_none hV
  have e : s.fn H (ds ++ []) = { results := [.lit (.bool true)], args := ds, vars := [] } := by rw [List.append_nil]; exact hs
  refine ⟨ds, [], p ++ [], [], p, [], hW', ?_, ?_, ?_, hB.frame _, fun h => by cases h⟩
  · rw [e, hr]
    exact trodAll_mk1 (shut_bool hb _)
  · rw [e]
    exact trodAll_after hl hB _ _ _ _ hp hA (fun x hx => hW'.lt x (List.mem_append_left _ hx))
  · rw [e, hv]
    rfl

/-- What a slice of bytes that came in gives. -/
theorem open_u8s {W : World} {base : Nat} {t e : TypeId} {v : Value} {d : DataW H} {p : List MemPlace} (ht : P.underlying t = some (.slice e)) (he : P.underlying e = some (.int .u8)) (hc : P.cellsOf e = 1)
    (hval : Value.okWide P W .any base t v) (h : DataW.Trod enc P W 0 (fun _ => true) true t v d p) :
    ∃ (A : Option Addr) (n c : Nat) (zs : List Int), v = .slice A n c ∧ (A = none → c = 0) ∧ zs.length = n ∧ n ≤ 9223372036854775807 ∧ Sees W W.heap.size A (cellsU8 zs) ∧ (∀ z ∈ zs, 0 ≤ z ∧ z ≤ 255) ∧ n ≤ c := by
  obtain ⟨a1, len, cap, rfl⟩ := okWide_slice ht hval
  obtain ⟨fuel, hf⟩ := h
  rcases open_ints ht he hc hf with ⟨hcs, hx⟩ | ⟨a, len', cap', zs, hcs, _, hlc, hm, hz, hx, hcell, hwz⟩
  · simp [Value.cells] at hcs
    obtain ⟨rfl, rfl, rfl⟩ := hcs
    exact ⟨none, 0, 0, [], rfl, fun _ => rfl, rfl, by omega, Sees.nil_ _ _ _, fun z hz => (by cases hz), Nat.le_refl _⟩
  · simp [Value.cells] at hcs
    obtain ⟨rfl, rfl, rfl⟩ := hcs
    simp only [if_true] at hz
    have hlen : (zs.take len).length = len := by simp; omega
    refine ⟨some a, len, cap, zs.take len, rfl, fun hn => by simp at hn, hlen, by unfold maxLen at hm; omega, ?_, fun z hz' => ?_, hlc⟩
    · intro k u hu
      have hk : k < len := by
        rcases Nat.lt_or_ge k len with h1 | h1
        · exact h1
        · rw [List.getElem?_eq_none (by simp [cellsU8]; omega)] at hu; simp at hu
      rw [get_u8 (by omega)] at hu
      have hu' : u = .int .u8 (zs.getD k 0) := by
        injection hu with hu
        rw [← hu]
        simp [hk]
      subst hu'
      obtain ⟨ab, ao, spot⟩ := a
      have h0 := hcell 0 (by omega)
      have hspot : spot = none := by simpa [Addr.add] using World.cell?_spot h0
      subst hspot
      have hck := hcell k (by omega)
      rw [WideShapes.add_plain] at hck
      exact ⟨ab, ao, rfl, World.block_lt_of_cell? _ _ hck, hck⟩
    · have := bounds_u8 (hwz z (List.mem_of_mem_take hz'))
      exact ⟨by omega, by omega⟩
end
end Go.Proofs.YtidlnecgfgnllaaDoor
end

section
/-
  What a slice of ints that came in gives. No function of the program is named here.
-/
namespace Go.Proofs.YtidlnecgfgnllaaDoor
open Go.ChangeShapes Go.WideShapes Go.ChangeAt Go.RowKit

theorem cells_i64 : Tryd.prog.cellsOf 3 = 1 := by kernel_rfl
/-- What a slice of ints that came in gives. -/
theorem open_i64s {H : Type} {enc : TypeId × Value → H} {P : Program} {W : World} {base : Nat} {t e : TypeId} {v : Value} {d : DataW H} {p : List MemPlace} (ht : P.underlying t = some (.slice e)) (he : P.underlying e = some (.int .i64)) (hc : P.cellsOf e = 1)
    (hval : Value.okWide P W .any base t v) (h : DataW.Trod enc P W 0 (fun _ => true) true t v d p) :
    ∃ (A : Option Addr) (n c : Nat) (zs : List Int), v = .slice A n c ∧ Lst W A n zs := by
  obtain ⟨a1, len, cap, rfl⟩ := okWide_slice ht hval
  obtain ⟨fuel, hf⟩ := h
  rcases open_ints ht he hc hf with ⟨hcs, hx⟩ | ⟨a, len', cap', zs, hcs, _, hlc, hm, hz, hx, hcell, hwz⟩
  · simp [Value.cells] at hcs
    obtain ⟨rfl, rfl, rfl⟩ := hcs
    exact ⟨none, 0, 0, [], rfl, ⟨rfl, by omega, Sees.nil_ _ _ _, fun z h => by cases h⟩⟩
  · simp [Value.cells] at hcs
    obtain ⟨rfl, rfl, rfl⟩ := hcs
    simp only [if_true] at hz
    have hlen : (zs.take len).length = len := by simp; omega
    refine ⟨some a, len, cap, zs.take len, rfl, ⟨hlen, by unfold maxLen at hm; omega, ?_, fun z hz' => ?_⟩⟩
    · intro k u hu
      have hk : k < len := by
        rcases Nat.lt_or_ge k len with h1 | h1
        · exact h1
        · rw [List.getElem?_eq_none (by rw [cellsI_length]; omega)] at hu; simp at hu
      rw [get_i64 (by omega)] at hu
      have hu' : u = .int .i64 (zs.getD k 0) := by
        injection hu with hu
        rw [← hu]
        have : k < zs.length := by omega
        simp [List.getD_eq_getElem?_getD, this]
      subst hu'
      obtain ⟨ab, ao, spot⟩ := a
      have h0 := hcell 0 (by omega)
      have hspot : spot = none := by simpa [Addr.add] using World.cell?_spot h0
      subst hspot
      have hck := hcell k (by omega)
      rw [WideShapes.add_plain] at hck
      exact ⟨ab, ao, rfl, World.block_lt_of_cell? _ _ hck, hck⟩
    · have := bounds_i64 (hwz z (List.mem_of_mem_take hz'))
      exact ⟨by omega, by omega⟩
end Go.Proofs.YtidlnecgfgnllaaDoor
end

section
/-
  What the rows' listed table gives the walks: it lies in its variable as its initialiser lays it; a world in which it does.
-/
namespace Go.Proofs.YtidlnecgfgnllaaDoor
open Go.ChangeShapes Go.WideShapes Go.ChangeAt Go.RowKit

theorem laid_out : laidOutB Tryd.prog = true := by kernel_rfl
theorem own_knob : ownKnob Tryd.prog.godebug = none := by kernel_rfl
theorem gTab : Tryd.prog.globalNamed "math/bits.deBruijn64tab" = some 0 := by kernel_rfl
theorem tTab : (Tryd.prog.globals[0]?).map (·.type) = some 106 := by kernel_rfl
theorem cells_u8 : Tryd.prog.cellsOf 5 = 1 := by kernel_rfl
theorem cells_tab : Tryd.prog.cellsOf 106 = 64 := by kernel_rfl
/-- What every row of this seat lists. -/
abbrev laidOne : List (String × DataW Unit) := [("math/bits.deBruijn64tab", Rows.laid_math_bits_deBruijn64tab)]
theorem laid_tab : (Rows.laid_math_bits_deBruijn64tab : DataW Unit) = Lib.tabData .u8 (Lib.deBruijn64tab.map Int.ofNat) := rfl
theorem tab_of_laid {W : World} (h : laidMetH Tryd.prog laidOne W) : Tab W := by
  rw [MakeChecks.laidMetH_plain _ _ _ (by kernel_rfl)] at h
  unfold laidOne at h
  rw [laid_tab] at h
  have hT := Lib.tabIs_of_head gTab tTab Tryd.underlying106 Tryd.underlying5 cells_u8 cells_tab h
  intro j hj
  have := hT.cell gTab j (by rw [List.length_map]; exact hj)
  rw [this, List.getD_eq_getElem?_getD, List.getElem?_map, List.getElem?_eq_getElem hj, List.getD_eq_getElem?_getD, List.getElem?_eq_getElem hj]
  rfl
/-- The door's own heap meets the condition. -/
theorem door_met (os : Os) (args : Array Value) : laidMetH Tryd.prog laidOne ((World.doorLaid Tryd.prog 400 os).forCall (fun _ _ => 0) ⟨#[], args, []⟩).memory :=
  laidMetH_of_parts3 (fuel := 8) (laidMet_of_run' 8 (by kernel_rfl) (by kernel_rfl)) (by kernel_rfl) (by kernel_rfl)

end Go.Proofs.YtidlnecgfgnllaaDoor
end

section
/-
  What an annotation that came in by value gives: rows of ints that can be read. No function of the program is named here.
-/
namespace Go.Proofs.YtidlnecgfgnllaaDoor
open Go.Joins Go.ChangeShapes Go.WideShapes Go.ChangeAt Go.RowKit Go.Deep

section
variable {H : Type} {enc : TypeId × Value → H} {P : Program} {W : World} {spare : Nat → Bool} {held : Bool}
/-- A row of cells at an address, read as a list. -/
theorem sees_of {a : Addr} {k m : Nat} {V : Nat → Value} (hk : k ≤ m) (hc : ∀ i, i < m → W.cell? (a.add i) = some (V i)) : Sees W W.heap.size (some a) ((List.range k).map V) := by
  intro i u hu
  have hi : i < k := by
    rcases Nat.lt_or_ge i k with h | h
    · exact h
    · rw [List.getElem?_eq_none (by simpa using h)] at hu; simp at hu
  have hu' : V i = u := by simpa [List.getElem?_map, List.getElem?_range hi] using hu
  subst hu'
  obtain ⟨ab, ao, spot⟩ := a
  have h0 := hc 0 (by omega)
  have hspot : spot = none := by simpa [Addr.add] using World.cell?_spot h0
  subst hspot
  have hck := hc i (by omega)
  rw [WideShapes.add_plain] at hck
  exact ⟨ab, ao, rfl, World.block_lt_of_cell? _ _ hck, hck⟩
theorem row_ints {e i : TypeId} {n : Nat} {v : Value} {y : DataW H × List MemPlace} (he : P.underlying e = some (.slice i)) (hi : P.underlying i = some (.int .i64)) (hc : P.cellsOf i = 1)
    (h : DataW.trod enc P W 0 spare held n e [v] = some y) : ∃ (A : Option Addr) (k c : Nat) (zs : List Int), v = .slice A k c ∧ Lst W A k zs ∧ (A = none → c = 0) := by
  rcases open_slice1 he hc h with ⟨hcs, -⟩ | ⟨a, len, cap, m, n', V, D, Pl, hcs, -, hl, hm, hmm, -, hx⟩
  · injection hcs with hcs _
    subst hcs
    exact ⟨none, 0, 0, [], rfl, ⟨rfl, by omega, Sees.nil_ _ _ _, fun z hz => by cases hz⟩, fun _ => rfl⟩
  · injection hcs with hcs _
    subst hcs
    have hlm : len ≤ m := by rw [hmm]; split <;> omega
    obtain ⟨f, hf⟩ := choose_lt (α := Int) (n := m) (p := fun j x => V j = .int .i64 x ∧ -9223372036854775808 ≤ x ∧ x ≤ 9223372036854775807) (fun j hj => by
      obtain ⟨x, e0, _, wz⟩ := DataW.trod_int hi (hx j hj).2
      simp only [List.cons.injEq, and_true] at e0
      exact ⟨x, e0, bounds_i64 wz⟩)
    refine ⟨some a, len, cap, (List.range len).map f, rfl, ⟨by simp, by unfold maxLen at hm; omega, ?_, fun z hz => ?_⟩, fun hn => by cases hn⟩
    · have hs := sees_of hlm (fun j hj => (hx j hj).1)
      have he2 : cellsI ((List.range len).map f) = (List.range len).map V := by
        unfold cellsI
        rw [List.map_map]
        refine List.map_congr_left fun j hj => ?_
        exact ((hf j (by have := List.mem_range.1 hj; omega)).1).symm
      rw [he2]
      exact hs
    · obtain ⟨j, hj, rfl⟩ := List.mem_map.1 hz
      exact (hf j (by have := List.mem_range.1 hj; omega)).2
theorem row_rows {t e i : TypeId} {n : Nat} {v : Value} {y : DataW H × List MemPlace} (ht : P.underlying t = some (.slice e)) (hce : P.cellsOf e = 1) (he : P.underlying e = some (.slice i)) (hi : P.underlying i = some (.int .i64)) (hc : P.cellsOf i = 1)
    (h : DataW.trod enc P W 0 spare held n t [v] = some y) : ∃ (A : Option Addr) (k c : Nat), v = .slice A k c ∧ k ≤ 9223372036854775807 ∧ (k ≤ 1048576 → ∃ zss, Ann W A k zss) := by
  rcases open_slice1 ht hce h with ⟨hcs, -⟩ | ⟨a, len, cap, m, n', V, D, Pl, hcs, -, hl, hm, hmm, -, hx⟩
  · injection hcs with hcs _
    subst hcs
    exact ⟨none, 0, 0, rfl, by omega, fun _ => ⟨[], rfl, by omega, [], Sees.nil_ _ _ _, rfl, fun i v zs hv => by simp at hv⟩⟩
  · injection hcs with hcs _
    subst hcs
    have hlm : len ≤ m := by rw [hmm]; split <;> omega
    obtain ⟨f, hf⟩ := choose_lt (α := List Int) (n := m) (p := fun j zs => ∃ (A' : Option Addr) (c' : Nat), V j = .slice A' zs.length c' ∧ Lst W A' zs.length zs ∧ (A' = none → c' = 0)) (fun j hj => by
      obtain ⟨A, k, c, zs, e0, hL, hA⟩ := row_ints he hi hc (hx j hj).2
      have hk := hL.len
      subst hk
      exact ⟨zs, A, c, e0, hL, hA⟩)
    refine ⟨some a, len, cap, rfl, by unfold maxLen at hm; omega, fun hle => ⟨(List.range len).map f, by simp, hle, (List.range len).map V, sees_of hlm (fun j hj => (hx j hj).1), by simp, fun j v zs hv hz => ?_⟩⟩
    have hj : j < len := by
      rcases Nat.lt_or_ge j len with h | h
      · exact h
      · rw [List.getElem?_eq_none (by simpa using h)] at hv; simp at hv
    have hv' : V j = v := by simpa [List.getElem?_map, List.getElem?_range hj] using hv
    have hz' : f j = zs := by simpa [List.getElem?_map, List.getElem?_range hj] using hz
    subst hv' hz'
    exact hf j (by omega)
/-- A struct of one slice of slices of ints, by value. -/
theorem open_live {t e i : TypeId} {f0 : Field} {b0 : Nat} {r : Reach} {v : Value} {d : DataW H} {p : List MemPlace} (hs : P.underlying t = some (.struct #[f0])) (hone : oneCellFields P #[f0] = true) (hC : P.cellsOf t = 1)
    (h0 : P.underlying f0.type = some (.slice e)) (hce : P.cellsOf e = 1) (he : P.underlying e = some (.slice i)) (hi : P.underlying i = some (.int .i64)) (hc : P.cellsOf i = 1)
    (hval : Value.okWide P W r b0 t v) (h : DataW.Trod enc P W 0 spare held t v d p) :
    ∃ (A : Option Addr) (k c : Nat), v = .agg #[.slice A k c] ∧ k ≤ 9223372036854775807 ∧ (k ≤ 1048576 → ∃ zss, Ann W A k zss) := by
  obtain ⟨cs, rfl, hsz⟩ := okWide_struct hs hval
  have h1 : cs.size = 1 := hsz.trans hC
  obtain ⟨l⟩ := cs
  match l, h1 with
  | [c0], _ =>
    obtain ⟨fuel, hf⟩ := h
    obtain ⟨y0, n, hx, _, g0⟩ := trod_struct1 hs hf
    obtain ⟨o0, k0⟩ := hone_of hone 0 f0 rfl
    have g1 : DataW.trod enc P W 0 spare held n f0.type [c0] = some y0 := by simpa [Value.cells, o0, k0] using g0
    obtain ⟨A, k, c, rfl, hk, hA⟩ := row_rows h0 hce he hi hc g1
    exact ⟨A, k, c, rfl, hk, hA⟩
end
end Go.Proofs.YtidlnecgfgnllaaDoor
end
