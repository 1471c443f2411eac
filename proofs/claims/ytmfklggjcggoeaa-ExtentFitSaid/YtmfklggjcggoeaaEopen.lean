/-
  What a pair of ints by value, and a slice of such pairs, that came in gives. No function of the program is named here.
-/
import Derived.Test.YtmfklggjcggoeaaLaw
import Derived.Test.YtmfklggjcggoeaaWords
import Derived.Lib.SmallJoins
import Derived.Deep.Slices
import Derived.Deep.Fields
namespace Go.Proofs.Ytmfklggjcggoeaa
open Go.Joins Go.ChangeShapes Go.WideShapes Go.ChangeAt Go.RowKit Go.Deep

section
variable {H : Type} {enc : TypeId × Value → H} {P : Program}
theorem open_pair {t : TypeId} {f0 f1 : Field} (hs : P.underlying t = some (.struct #[f0, f1])) (h0 : P.underlying f0.type = some (.int .i64)) (h1 : P.underlying f1.type = some (.int .i64)) (hone : oneCellFields P #[f0, f1] = true) (hC : P.cellsOf t = 2)
    {W : World} {base b0 : Nat} {r : Reach} {v : Value} {d : DataW H} {p : List MemPlace} {spare : Nat → Bool} {held : Bool}
    (hval : Value.okWide P W r b0 t v) (h : DataW.Trod enc P W base spare held t v d p) : ∃ a b : Int, v = pv a b := by
  obtain ⟨v0, v1, y0, y1, n, rfl, _, _, t0, t1⟩ := Go.Joins.open_agg2 hs hone hC hval h
  obtain ⟨a, e0, _, wa⟩ := DataW.trod_int h0 t0
  obtain ⟨b, e1, _, wb⟩ := DataW.trod_int h1 t1
  simp only [List.cons.injEq, and_true] at e0 e1
  subst e0 e1
  exact ⟨a, b, rfl⟩

theorem open_pairs {t e : TypeId} {f0 f1 : Field} (ht : P.underlying t = some (.slice e)) (hs : P.underlying e = some (.struct #[f0, f1])) (h0 : P.underlying f0.type = some (.int .i64)) (h1 : P.underlying f1.type = some (.int .i64)) (hone : oneCellFields P #[f0, f1] = true) (hC : P.cellsOf e = 2)
    {W : World} {b0 : Nat} {r : Reach} {v : Value} {d : DataW H} {p : List MemPlace}
    (hval : Value.okWide P W r b0 t v) (h : DataW.Trod enc P W 0 (fun _ => true) true t v d p) :
    ∃ (A : Option Addr) (n c : Nat) (l : List (Int × Int)), v = .slice A n c ∧ (A = none → c = 0) ∧ l.length = n ∧ n ≤ 9223372036854775807 ∧ Sees W W.heap.size A (pcells l) ∧ n ≤ c := by
  obtain ⟨a1, len, cap, rfl⟩ := okWide_slice ht hval
  obtain ⟨fuel, hf⟩ := h
  rcases open_slice ht hf with ⟨hcs, hx⟩ | ⟨a, len', cap', m, n, D, Pl, hcs, _, hlc, hm, hmm, hx, hi⟩
  · simp [Value.cells] at hcs
    obtain ⟨rfl, rfl, rfl⟩ := hcs
    exact ⟨none, 0, 0, [], rfl, fun _ => rfl, rfl, by omega, Sees.nil_ _ _ _, Nat.le_refl _⟩
  · simp [Value.cells] at hcs
    obtain ⟨rfl, rfl, rfl⟩ := hcs
    simp only [if_true] at hmm
    have hel : ∀ i, i < len → ∃ u : Int × Int, W.cell? (a.add (i * 2)) = some (.int .i64 u.1) ∧ W.cell? (a.add (i * 2 + 1)) = some (.int .i64 u.2) := by
      intro i hlt
      obtain ⟨cs', hc, ht'⟩ := hi i (by omega)
      rw [hC] at hc
      obtain ⟨ys, n', hn', hy, hlen, hyl, hg⟩ := DataW.trod_struct hs ht'
      obtain ⟨_, hcl, hat⟩ := World.cells?_some hc
      match cs', hcl with
      | [c0, c1], _ =>
        obtain ⟨o0, k0⟩ := hone_of hone 0 f0 rfl
        obtain ⟨o1, k1⟩ := hone_of hone 1 f1 rfl
        have g0 := hg 0 f0 rfl
        have g1 := hg 1 f1 rfl
        rw [o0, k0] at g0
        rw [o1, k1] at g1
        match ys, hyl with
        | [y0, y1], _ =>
          obtain ⟨x0, e0, _, _⟩ := DataW.trod_int (x := y0) h0 (by simpa using g0)
          obtain ⟨x1, e1, _, _⟩ := DataW.trod_int (x := y1) h1 (by simpa using g1)
          simp only [List.cons.injEq, and_true] at e0 e1
          subst e0 e1
          refine ⟨(x0, x1), ?_, ?_⟩
          · have := hat 0 (by omega)
            rw [Go.Deep.add_add] at this
            simpa using this
          · have := hat 1 (by omega)
            rw [Go.Deep.add_add] at this
            simpa using this
    have hex : ∀ k, k ≤ len → ∃ l : List (Int × Int), l.length = k ∧ ∀ i (u : Int × Int), l[i]? = some u → W.cell? (a.add (i * 2)) = some (.int .i64 u.1) ∧ W.cell? (a.add (i * 2 + 1)) = some (.int .i64 u.2) := by
      intro k
      induction k with
      | zero => exact fun _ => ⟨[], rfl, fun i u hu => by simp at hu⟩
      | succ k ih =>
        intro hk
        obtain ⟨l, hl, hcl⟩ := ih (by omega)
        obtain ⟨u, hu⟩ := hel k (by omega)
        refine ⟨l ++ [u], by simp [hl], fun i v hv => ?_⟩
        rcases Nat.lt_or_ge i k with h2 | h2
        · rw [List.getElem?_append_left (by omega)] at hv
          exact hcl i v hv
        · rw [List.getElem?_append_right (by omega)] at hv
          obtain rfl : i = k := by
            rcases Nat.lt_or_ge (i - l.length) 1 with h3 | h3
            · omega
            · rw [List.getElem?_eq_none (by simpa using h3)] at hv; simp at hv
          rw [hl, Nat.sub_self] at hv
          simp at hv
          subst hv
          exact hu
    obtain ⟨l, hl, hcl⟩ := hex len (Nat.le_refl _)
    refine ⟨some a, len, cap, l, rfl, fun hn => by simp at hn, hl, by unfold maxLen at hm; omega, ?_, hlc⟩
    intro k u hu
    have hk : k < l.length * 2 := by
      rcases Nat.lt_or_ge k (l.length * 2) with h2 | h2
      · exact h2
      · rw [List.getElem?_eq_none (by rw [pcells_length]; exact h2)] at hu; simp at hu
    obtain ⟨q, hq⟩ : ∃ q, k / 2 = q := ⟨_, rfl⟩
    have hv : l[q]? = some l[q] := List.getElem?_eq_getElem (by omega)
    obtain ⟨p0, p1⟩ := pcells_at l q _ hv
    obtain ⟨c0, c1⟩ := hcl q _ hv
    obtain ⟨ab, ao, spot⟩ := a
    have hspot : spot = none := by
      have h3 := hel 0 (by omega)
      obtain ⟨u0, h3, _⟩ := h3
      simpa [Addr.add] using World.cell?_spot h3
    subst hspot
    rw [WideShapes.add_plain] at c0 c1
    rcases (show k = q * 2 ∨ k = q * 2 + 1 by omega) with rfl | rfl
    · rw [p0] at hu
      injection hu with hu
      subst hu
      exact ⟨ab, ao, rfl, World.block_lt_of_cell? _ _ c0, c0⟩
    · rw [p1] at hu
      injection hu with hu
      subst hu
      exact ⟨ab, ao, rfl, World.block_lt_of_cell? _ _ c1, c1⟩
end

theorem open_interval {H : Type} {enc : TypeId × Value → H} {W : World} {base b0 : Nat} {r : Reach} {v : Value} {d : DataW H} {p : List MemPlace} {spare : Nat → Bool} {held : Bool}
    (hval : Value.okWide Try.prog W r b0 32 v) (h : DataW.Trod enc Try.prog W base spare held 32 v d p) : ∃ a b : Int, v = pv a b :=
  open_pair Try.underlying32 Try.underlying3 Try.underlying3 (by kernel_rfl) (by kernel_rfl) hval h
theorem open_intervals {H : Type} {enc : TypeId × Value → H} {W : World} {b0 : Nat} {r : Reach} {v : Value} {d : DataW H} {p : List MemPlace}
    (hval : Value.okWide Try.prog W r b0 48 v) (h : DataW.Trod enc Try.prog W 0 (fun _ => true) true 48 v d p) :
    ∃ (A : Option Addr) (n c : Nat) (l : List (Int × Int)), v = .slice A n c ∧ (A = none → c = 0) ∧ l.length = n ∧ n ≤ 9223372036854775807 ∧ Sees W W.heap.size A (pcells l) ∧ n ≤ c :=
  open_pairs Try.underlying48 Try.underlying32 Try.underlying3 Try.underlying3 (by kernel_rfl) (by kernel_rfl) hval h
theorem open_slots {H : Type} {enc : TypeId × Value → H} {W : World} {b0 : Nat} {r : Reach} {v : Value} {d : DataW H} {p : List MemPlace}
    (hval : Value.okWide Try.prog W r b0 36 v) (h : DataW.Trod enc Try.prog W 0 (fun _ => true) true 36 v d p) :
    ∃ (A : Option Addr) (n c : Nat) (l : List (Int × Int)), v = .slice A n c ∧ (A = none → c = 0) ∧ l.length = n ∧ n ≤ 9223372036854775807 ∧ Sees W W.heap.size A (pcells l) ∧ n ≤ c :=
  open_pairs Try.underlying36 Try.underlying43 Try.underlying3 Try.underlying3 (by kernel_rfl) (by kernel_rfl) hval h
end Go.Proofs.Ytmfklggjcggoeaa
