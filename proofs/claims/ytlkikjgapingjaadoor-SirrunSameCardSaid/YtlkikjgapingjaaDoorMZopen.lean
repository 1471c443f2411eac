import Derived.Test.YtlkikjgapingjaaDoorMZsam
import Derived.Test.YtlkikjgapingjaaDoorMLaw
import Derived.Lib.SmallJoins
import Derived.Deep.Slices
import Derived.Deep.Fields
import Derived.ChangeSame
set_option linter.unusedVariables false
set_option linter.unusedSimpArgs false
section
/-
  What an outcome that came in gives: its numbers, its value, its trace in memory. No function of the program is named here.
-/
namespace Go.Proofs.YtlkikjgapingjaaDoor
open Go.Joins Go.ChangeShapes Go.WideShapes Go.ChangeAt Go.RowKit Go.Deep

section
variable {H : Type} {enc : TypeId × Value → H} {W : World} {held : Bool}
/-- A slice whose elements lie in K cells each, read element by element. -/
theorem open_flatm {P : Program} {α : Type} {f : α → List Value} {Q : α → Prop} {K : Nat} {t e : TypeId} (hf : ∀ a, (f a).length = K) (hK : 0 < K) (ht : P.underlying t = some (.slice e)) (hC : P.cellsOf e = K)
    (hel : ∀ (cs : List Value) (y : DataW H × List MemPlace) (n : Nat), cs.length = K → DataW.trod enc P W 0 (fun _ => true) held n e cs = some y → ∃ a, cs = f a ∧ Q a)
    {fuel : Nat} {cs : List Value} {x : DataW H × List MemPlace} (h : DataW.trod enc P W 0 (fun _ => true) held fuel t cs = some x) :
    ∃ (A : Option Addr) (n c : Nat) (l : List α), cs = [.slice A n c] ∧ (A = none → c = 0) ∧ l.length = n ∧ n ≤ c ∧ n ≤ 9223372036854775807 ∧ Sees W W.heap.size A (l.flatMap f) ∧ ∀ a ∈ l, Q a := by
  rcases open_slice ht h with ⟨hcs, hx⟩ | ⟨a, len, cap, m, n, D, Pl, hcs, _, hlc, hm, hmm, hx, hi⟩
  · exact ⟨none, 0, 0, [], hcs, fun _ => rfl, rfl, Nat.le_refl _, by omega, Sees.nil_ _ _ _, (fun a h => by cases h)⟩
  · simp only [if_true] at hmm
    subst hmm
    have hel2 : ∀ i, i < len → ∃ u : α, Q u ∧ ∀ r, r < K → W.cell? (a.add (i * K + r)) = (f u)[r]? := by
      intro i hlt
      obtain ⟨cs', hc, ht'⟩ := hi i (by omega)
      rw [hC] at hc
      obtain ⟨_, hcl, hat⟩ := World.cells?_some hc
      obtain ⟨u, hu, hq⟩ := hel cs' _ n hcl ht'
      refine ⟨u, hq, fun r hr => ?_⟩
      have := hat r hr
      rw [Go.Deep.add_add] at this
      rw [this, hu]
    have hex : ∀ k, k ≤ len → ∃ l : List α, l.length = k ∧ (∀ u ∈ l, Q u) ∧ ∀ i (u : α), l[i]? = some u → ∀ r, r < K → W.cell? (a.add (i * K + r)) = (f u)[r]? := by
      intro k
      induction k with
      | zero => exact fun _ => ⟨[], rfl, (fun u h => by cases h), (fun i u hu => by simp at hu)⟩
      | succ k ih =>
        intro hk
        obtain ⟨l, hl, hq, hcl⟩ := ih (by omega)
        obtain ⟨u, hqu, hu⟩ := hel2 k (by omega)
        refine ⟨l ++ [u], by simp [hl], (fun v hv => ?_), fun i v hv => ?_⟩
        · rcases List.mem_append.1 hv with h | h
          · exact hq v h
          · simp at h; subst h; exact hqu
        · rcases Nat.lt_or_ge i k with h2 | h2
          · rw [List.getElem?_append_left (by omega)] at hv
            exact hcl i v hv
          · rw [List.getElem?_append_right (by omega)] at hv
            obtain rfl : i = k := by
              rcases Nat.lt_or_ge (i - l.length) 1 with h3 | h3
              · omega
              · rw [List.getElem?_eq_none (by simpa using h3)] at hv; simp at hv
            rw [hl, Nat.sub_self] at hv
            simp at hv
            subst hv
            exact hu
    obtain ⟨l, hl, hq, hcl⟩ := hex len (Nat.le_refl _)
    refine ⟨some a, len, m, l, hcs, (fun h => by cases h), hl, hlc, (by unfold maxLen at hm; omega), ?_, hq⟩
    intro k u hu
    have hlen := flat_len hf l
    have hk : k < l.length * K := by
      rcases Nat.lt_or_ge k (l.length * K) with h2 | h2
      · exact h2
      · rw [List.getElem?_eq_none (by rw [hlen]; exact h2)] at hu; simp at hu
    have hq1 : k / K < l.length := Nat.div_lt_of_lt_mul (by rw [Nat.mul_comm]; exact hk)
    have hr1 : k % K < K := Nat.mod_lt _ hK
    have hdm : k / K * K + k % K = k := Nat.div_add_mod' k K
    have hv := List.getElem?_eq_getElem hq1
    have hfa := flat_at hf l (k / K) _ hv (k % K) hr1
    rw [hdm, hu] at hfa
    have hc := hcl (k / K) _ hv (k % K) hr1
    rw [hdm, ← hfa] at hc
    obtain ⟨ab, ao, spot⟩ := a
    have hspot : spot = none := by
      have h0 : 0 < l.length := Nat.pos_of_ne_zero fun e => by rw [e] at hk; simp at hk
      have hc0 := hcl 0 _ (List.getElem?_eq_getElem h0) 0 hK
      rw [List.getElem?_eq_getElem (by rw [hf]; exact hK)] at hc0
      simpa [Addr.add] using World.cell?_spot hc0
    subst hspot
    rw [WideShapes.add_plain] at hc
    exact ⟨ab, ao, rfl, World.block_lt_of_cell? _ _ hc, hc⟩
set_option maxRecDepth 100000 in
theorem val_of0 {base : Nat} {sp : Nat → Bool} {fuel : Nat} {cs : List Value} {x : DataW H × List MemPlace} (f0 f1 : Field) (he : Tryd.prog.underlying 33 = some (.struct #[f0, f1])) (h0 : f0.type = 31) (h1 : f1.type = 31) (hone : oneCellFields Tryd.prog #[f0, f1] = true) (hl : cs.length = 2)
    (h : DataW.trod enc Tryd.prog W base sp held fuel 33 cs = some x) : ∃ V, cs = vcell V ∧ V < two128 := by
  obtain ⟨ys, n, _, hx, _, hyl, hg⟩ := DataW.trod_struct he h
  match cs, hl, ys, hyl with
  | [c0, c1], _, [y0, y1], _ =>
    have g0 := hg 0 f0 rfl
    have g1 := hg 1 f1 rfl
    obtain ⟨o0, k0⟩ := hone_of hone 0 f0 rfl
    obtain ⟨o1, k1⟩ := hone_of hone 1 f1 rfl
    rw [o0, k0, h0] at g0
    rw [o1, k1, h1] at g1
    obtain ⟨n0, e0, _, w0⟩ := DataW.trod_int (x := y0) Tryd.underlying31 (by simpa using g0)
    obtain ⟨n1, e1, _, w1⟩ := DataW.trod_int (x := y1) Tryd.underlying31 (by simpa using g1)
    simp only [List.cons.injEq, and_true] at e0 e1
    subst e0 e1
    have ba := bounds_u64 w0
    have bb := bounds_u64 w1
    exact ⟨num n0 n1, by unfold vcell; rw [lo_num ba.1 ba.2 bb.1 bb.2, hi_num ba.1 ba.2 bb.1 bb.2], num_lt ba.2 bb.2⟩
set_option maxRecDepth 100000 in
theorem val_of {base : Nat} {sp : Nat → Bool} {fuel : Nat} {cs : List Value} {x : DataW H × List MemPlace} (hl : cs.length = 2)
    (h : DataW.trod enc Tryd.prog W base sp held fuel 33 cs = some x) : ∃ V, cs = vcell V ∧ V < two128 :=
  val_of0 _ _ Tryd.underlying33 rfl rfl (by kernel_rfl) hl h
set_option maxRecDepth 100000 in
theorem open_tr {fuel : Nat} {cs : List Value} {x : DataW H × List MemPlace} (h : DataW.trod enc Tryd.prog W 0 (fun _ => true) held fuel 34 cs = some x) : ∃ (A : Option Addr) (n c : Nat) (l : List Nat), cs = [.slice A n c] ∧ TrAt W W.heap.size A n c l := by
  obtain ⟨A, n, c, l, e, h1, h2, h3, h4, h5, h6⟩ := open_flatm (f := vcell) (Q := fun V => V < two128) vcell_len (by decide) Tryd.underlying34 (by kernel_rfl) (fun cs y n hl ht => val_of hl ht) h
  exact ⟨A, n, c, l, e, h2, h3, h4, h1, h5, h6⟩
theorem array6 {α : Type} {cs : Array α} (h : cs.size = 6) : ∃ c0 c1 c2 c3 c4 c5, cs = #[c0, c1, c2, c3, c4, c5] := by
  obtain ⟨l⟩ := cs
  match l, h with
  | [c0, c1, c2, c3, c4, c5], _ => exact ⟨c0, c1, c2, c3, c4, c5, rfl⟩
set_option maxRecDepth 100000 in
theorem out_of0 {r : Reach} {b0 : Nat} {v : Value} {d : DataW H} {p : List MemPlace} (f0 f1 f2 f3 f4 : Field) (hs : Tryd.prog.underlying 36 = some (.struct #[f0, f1, f2, f3, f4]))
    (h0 : f0.type = 3) (h1 : f1.type = 31) (h2 : f2.type = 33) (h3 : f3.type = 34) (h4 : f4.type = 3) (o0 : f0.offset = 0) (o1 : f1.offset = 1) (o2 : f2.offset = 2) (o3 : f3.offset = 4) (o4 : f4.offset = 5)
    (hv : Value.okWide Tryd.prog W r b0 36 v) (h : DataW.Trod enc Tryd.prog W 0 (fun _ => true) held 36 v d p) :
    ∃ (k c : Int) (q : Nat) (A : Option Addr) (n cap : Nat) (l : List Nat) (s : Int), v = ov k c q A n cap s ∧ TrAt W W.heap.size A n cap l ∧ q < two128 ∧ (-9223372036854775808 ≤ k ∧ k ≤ 9223372036854775807) ∧ (0 ≤ c ∧ c ≤ 18446744073709551615) ∧ (-9223372036854775808 ≤ s ∧ s ≤ 9223372036854775807) := by
  obtain ⟨cs, rfl, hsz⟩ := okWide_struct hs hv
  obtain ⟨c0, c1, c2, c3, c4, c5, rfl⟩ := array6 (hsz.trans (by kernel_rfl))
  obtain ⟨fuel, hf⟩ := h
  obtain ⟨xs, n, _, _, _, hlen, hg⟩ := DataW.trod_struct hs hf
  match xs, hlen with
  | [y0, y1, y2, y3, y4], _ =>
    have g0 := hg 0 f0 rfl
    have g1 := hg 1 f1 rfl
    have g2 := hg 2 f2 rfl
    have g3 := hg 3 f3 rfl
    have g4 := hg 4 f4 rfl
    rw [h0, o0, show Tryd.prog.cellsOf 3 = 1 by kernel_rfl] at g0
    rw [h1, o1, show Tryd.prog.cellsOf 31 = 1 by kernel_rfl] at g1
    rw [h2, o2, show Tryd.prog.cellsOf 33 = 2 by kernel_rfl] at g2
    rw [h3, o3, show Tryd.prog.cellsOf 34 = 1 by kernel_rfl] at g3
    rw [h4, o4, show Tryd.prog.cellsOf 3 = 1 by kernel_rfl] at g4
    obtain ⟨k, e0, _, w0⟩ := DataW.trod_int (x := y0) Tryd.underlying3 (by simpa [Value.cells] using g0)
    obtain ⟨c, e1, _, w1⟩ := DataW.trod_int (x := y1) Tryd.underlying31 (by simpa [Value.cells] using g1)
    obtain ⟨q, e2, hq⟩ := val_of (x := y2) (cs := [c2, c3]) rfl (by simpa [Value.cells] using g2)
    obtain ⟨A, m, cap, l, e3, ht⟩ := open_tr (x := y3) (cs := [c4]) (by simpa [Value.cells] using g3)
    obtain ⟨s, e4, _, w4⟩ := DataW.trod_int (x := y4) Tryd.underlying3 (by simpa [Value.cells] using g4)
    unfold vcell at e2
    simp only [List.cons.injEq, and_true] at e0 e1 e2 e3 e4
    obtain ⟨e2, e5⟩ := e2
    subst e0 e1 e2 e3 e4 e5
    exact ⟨k, c, q, A, m, cap, l, s, rfl, ht, hq, bounds_i64 w0, bounds_u64 w1, bounds_i64 w4⟩
set_option maxRecDepth 100000 in
theorem open_out {r : Reach} {b0 : Nat} {v : Value} {d : DataW H} {p : List MemPlace}
    (hv : Value.okWide Tryd.prog W r b0 36 v) (h : DataW.Trod enc Tryd.prog W 0 (fun _ => true) held 36 v d p) :
    ∃ (k c : Int) (q : Nat) (A : Option Addr) (n cap : Nat) (l : List Nat) (s : Int), v = ov k c q A n cap s ∧ TrAt W W.heap.size A n cap l ∧ q < two128 ∧ (-9223372036854775808 ≤ k ∧ k ≤ 9223372036854775807) ∧ (0 ≤ c ∧ c ≤ 18446744073709551615) ∧ (-9223372036854775808 ≤ s ∧ s ≤ 9223372036854775807) :=
  out_of0 _ _ _ _ _ Tryd.underlying36 rfl rfl rfl rfl rfl rfl rfl rfl rfl rfl hv h
end
end Go.Proofs.YtlkikjgapingjaaDoor
end
