/-
  What a program that came in gives: its functions, slots and instructions in memory. The reach bounds each slice. No function of the program is named here.
-/
import Derived.Test.YtjgoldlebmfiiaaLaw
import Derived.Test.YtjgoldlebmfiiaaPmem
import Derived.Lib.SmallJoins
import Derived.Deep.Slices
import Derived.Deep.Fields
import Derived.SizedLaws
import Derived.ChangeSame
namespace Go.Proofs.Ytjgoldlebmfiiaa
open Go.Joins Go.ChangeShapes Go.WideShapes Go.ChangeAt Go.RowKit Go.Deep

section
variable {H : Type} {enc : TypeId × Value → H} {P : Program} {W : World} {held : Bool}
theorem weightsAll_mem {e : TypeId} : ∀ {l : List (DataW H)} {d : DataW H}, d ∈ l → ∀ n ∈ d.weights P e, n ∈ DataW.weightsAll P e l
  | [], _, h => by cases h
  | x :: r, d, h => fun n hn => by
    simp only [DataW.weightsAll, List.mem_append]
    rcases List.mem_cons.1 h with rfl | h
    · exact .inl hn
    · exact .inr (weightsAll_mem h n hn)

/-- A slice whose elements lie in K cells each, read element by element. -/
theorem open_flat {α : Type} {f : α → List Value} {Q : α → Prop} {K : Nat} {t e : TypeId} (hf : ∀ a, (f a).length = K) (hK : 0 < K) (ht : P.underlying t = some (.slice e)) (hC : P.cellsOf e = K)
    (hel : ∀ (cs : List Value) (y : DataW H × List MemPlace) (n : Nat), cs.length = K → DataW.trod enc P W 0 (fun _ => true) held n e cs = some y → (∀ m ∈ y.1.weights P e, m ≤ reachBytes) → ∃ a, cs = f a ∧ Q a)
    {fuel : Nat} {cs : List Value} {x : DataW H × List MemPlace} (h : DataW.trod enc P W 0 (fun _ => true) held fuel t cs = some x) (hw : ∀ m ∈ x.1.weights P t, m ≤ reachBytes) :
    ∃ (A : Option Addr) (n c : Nat) (l : List α), cs = [.slice A n c] ∧ (A = none → c = 0) ∧ l.length = n ∧ n ≤ c ∧ c * P.bytesOf e ≤ reachBytes ∧ Sees W W.heap.size A (l.flatMap f) ∧ ∀ a ∈ l, Q a := by
  rcases open_slice ht h with ⟨hcs, hx⟩ | ⟨a, len, cap, m, n, D, Pl, hcs, _, hlc, hm, hmm, hx, hi⟩
  · exact ⟨none, 0, 0, [], hcs, fun _ => rfl, rfl, Nat.le_refl _, by simp, Sees.nil_ _ _ _, (fun a h => by cases h)⟩
  · simp only [if_true] at hmm
    subst hmm
    have hxw : x.1 = .slice ((List.range len).map D) ((List.range (m - len)).map fun j => D (len + j)) := by rw [hx]
    have hwt : x.1.weights P t = (((List.range len).map D).length + ((List.range (m - len)).map fun j => D (len + j)).length) * P.bytesOf e :: (DataW.weightsAll P e ((List.range len).map D) ++ DataW.weightsAll P e ((List.range (m - len)).map fun j => D (len + j))) := by
      rw [hxw]
      simp only [DataW.weights, ht]
    have hcap : m * P.bytesOf e ≤ reachBytes := by
      have := hw (m * P.bytesOf e) (by rw [hwt]; simp; left; congr 1; omega)
      exact this
    have hel2 : ∀ i, i < len → ∃ u : α, Q u ∧ ∀ r, r < K → W.cell? (a.add (i * K + r)) = (f u)[r]? := by
      intro i hlt
      obtain ⟨cs', hc, ht'⟩ := hi i (by omega)
      rw [hC] at hc
      obtain ⟨_, hcl, hat⟩ := World.cells?_some hc
      obtain ⟨u, hu, hq⟩ := hel cs' _ n hcl ht' (fun k hk => hw k (by
        rw [hwt]
        refine List.mem_cons_of_mem _ (List.mem_append_left _ (weightsAll_mem (d := D i) (List.mem_map.2 ⟨i, List.mem_range.2 hlt, rfl⟩) k hk))))
      refine ⟨u, hq, fun r hr => ?_⟩
      have := hat r hr
      rw [Go.Deep.add_add] at this
      rw [this, hu]
    have hex : ∀ k, k ≤ len → ∃ l : List α, l.length = k ∧ (∀ u ∈ l, Q u) ∧ ∀ i (u : α), l[i]? = some u → ∀ r, r < K → W.cell? (a.add (i * K + r)) = (f u)[r]? := by
      intro k
      induction k with
      | zero => exact fun _ => ⟨[], rfl, (fun u h => by cases h), (fun i u hu => by simp at hu)⟩
      | succ k ih =>
        intro hk
        obtain ⟨l, hl, hq, hcl⟩ := ih (by omega)
        obtain ⟨u, hqu, hu⟩ := hel2 k (by omega)
        refine ⟨l ++ [u], by simp [hl], (fun v hv => ?_), fun i v hv => ?_⟩
        · rcases List.mem_append.1 hv with h | h
          · exact hq v h
          · simp at h; subst h; exact hqu
        · rcases Nat.lt_or_ge i k with h2 | h2
          · rw [List.getElem?_append_left (by omega)] at hv
            exact hcl i v hv
          · rw [List.getElem?_append_right (by omega)] at hv
            obtain rfl : i = k := by
              rcases Nat.lt_or_ge (i - l.length) 1 with h3 | h3
              · omega
              · rw [List.getElem?_eq_none (by simpa using h3)] at hv; simp at hv
            rw [hl, Nat.sub_self] at hv
            simp at hv
            subst hv
            exact hu
    obtain ⟨l, hl, hq, hcl⟩ := hex len (Nat.le_refl _)
    refine ⟨some a, len, m, l, hcs, (fun h => by cases h), hl, hlc, hcap, ?_, hq⟩
    intro k u hu
    have hlen := flat_len hf l
    have hk : k < l.length * K := by
      rcases Nat.lt_or_ge k (l.length * K) with h2 | h2
      · exact h2
      · rw [List.getElem?_eq_none (by rw [hlen]; exact h2)] at hu; simp at hu
    have hq1 : k / K < l.length := Nat.div_lt_of_lt_mul (by rw [Nat.mul_comm]; exact hk)
    have hr1 : k % K < K := Nat.mod_lt _ hK
    have hdm : k / K * K + k % K = k := Nat.div_add_mod' k K
    have hv := List.getElem?_eq_getElem hq1
    have hfa := flat_at hf l (k / K) _ hv (k % K) hr1
    rw [hdm, hu] at hfa
    have hc := hcl (k / K) _ hv (k % K) hr1
    rw [hdm, ← hfa] at hc
    obtain ⟨ab, ao, spot⟩ := a
    have hspot : spot = none := by
      have h0 : 0 < l.length := Nat.pos_of_ne_zero fun e => by rw [e] at hk; simp at hk
      have hc0 := hcl 0 _ (List.getElem?_eq_getElem h0) 0 hK
      rw [List.getElem?_eq_getElem (by rw [hf]; exact hK)] at hc0
      simpa [Addr.add] using World.cell?_spot hc0
    subst hspot
    rw [WideShapes.add_plain] at hc
    exact ⟨ab, ao, rfl, World.block_lt_of_cell? _ _ hc, hc⟩
end

theorem bytes_slot : Try.prog.bytesOf 95 = 16 := by kernel_rfl
theorem bytes_instr : Try.prog.bytesOf 27 = 40 := by kernel_rfl
theorem bytes_func : Try.prog.bytesOf 75 = 56 := by kernel_rfl
section
variable {H : Type} {enc : TypeId × Value → H} {P : Program} {W : World} {base : Nat} {sp : Nat → Bool} {held : Bool}
theorem two_of {e : TypeId} {f0 f1 : Field} {fuel : Nat} {cs : List Value} {x : DataW H × List MemPlace} (he : P.underlying e = some (.struct #[f0, f1])) (hone : oneCellFields P #[f0, f1] = true) (u0 : P.underlying f0.type = some (.int .i64)) (u1 : P.underlying f1.type = some (.int .i64)) (hl : cs.length = 2)
    (h : DataW.trod enc P W base sp held fuel e cs = some x) : ∃ a b : Int, cs = [.int .i64 a, .int .i64 b] := by
  obtain ⟨ys, n, _, hx, _, hyl, hg⟩ := DataW.trod_struct he h
  match cs, hl, ys, hyl with
  | [c0, c1], _, [y0, y1], _ =>
    have g0 := hg 0 f0 rfl
    have g1 := hg 1 f1 rfl
    obtain ⟨o0, k0⟩ := hone_of hone 0 f0 rfl
    obtain ⟨o1, k1⟩ := hone_of hone 1 f1 rfl
    rw [o0, k0] at g0
    rw [o1, k1] at g1
    obtain ⟨n0, e0, _, _⟩ := DataW.trod_int (x := y0) u0 (by simpa using g0)
    obtain ⟨n1, e1, _, _⟩ := DataW.trod_int (x := y1) u1 (by simpa using g1)
    simp only [List.cons.injEq, and_true] at e0 e1
    subst e0 e1
    exact ⟨n0, n1, rfl⟩
theorem five_of {e : TypeId} {f0 f1 f2 f3 f4 : Field} {fuel : Nat} {cs : List Value} {x : DataW H × List MemPlace} (he : P.underlying e = some (.struct #[f0, f1, f2, f3, f4])) (hone : oneCellFields P #[f0, f1, f2, f3, f4] = true) (u0 : P.underlying f0.type = some (.int .i64)) (u1 : P.underlying f1.type = some (.int .i64)) (u2 : P.underlying f2.type = some (.int .i64)) (u3 : P.underlying f3.type = some (.int .i64)) (u4 : P.underlying f4.type = some (.int .u64)) (hl : cs.length = 5)
    (h : DataW.trod enc P W base sp held fuel e cs = some x) : ∃ a b c d m : Int, cs = [.int .i64 a, .int .i64 b, .int .i64 c, .int .i64 d, .int .u64 m] := by
  obtain ⟨ys, n, _, hx, _, hyl, hg⟩ := DataW.trod_struct he h
  match cs, hl, ys, hyl with
  | [c0, c1, c2, c3, c4], _, [y0, y1, y2, y3, y4], _ =>
    have g0 := hg 0 f0 rfl
    have g1 := hg 1 f1 rfl
    have g2 := hg 2 f2 rfl
    have g3 := hg 3 f3 rfl
    have g4 := hg 4 f4 rfl
    obtain ⟨o0, k0⟩ := hone_of hone 0 f0 rfl
    obtain ⟨o1, k1⟩ := hone_of hone 1 f1 rfl
    obtain ⟨o2, k2⟩ := hone_of hone 2 f2 rfl
    obtain ⟨o3, k3⟩ := hone_of hone 3 f3 rfl
    obtain ⟨o4, k4⟩ := hone_of hone 4 f4 rfl
    rw [o0, k0] at g0
    rw [o1, k1] at g1
    rw [o2, k2] at g2
    rw [o3, k3] at g3
    rw [o4, k4] at g4
    obtain ⟨n0, e0, _, _⟩ := DataW.trod_int (x := y0) u0 (by simpa using g0)
    obtain ⟨n1, e1, _, _⟩ := DataW.trod_int (x := y1) u1 (by simpa using g1)
    obtain ⟨n2, e2, _, _⟩ := DataW.trod_int (x := y2) u2 (by simpa using g2)
    obtain ⟨n3, e3, _, _⟩ := DataW.trod_int (x := y3) u3 (by simpa using g3)
    obtain ⟨n4, e4, _, _⟩ := DataW.trod_int (x := y4) u4 (by simpa using g4)
    simp only [List.cons.injEq, and_true] at e0 e1 e2 e3 e4
    subst e0 e1 e2 e3 e4
    exact ⟨n0, n1, n2, n3, n4, rfl⟩
end

section
variable {H : Type} {enc : TypeId × Value → H} {W : World} {held : Bool}
set_option maxRecDepth 100000 in
theorem open_slots_in {fuel : Nat} {cs : List Value} {x : DataW H × List MemPlace} (h : DataW.trod enc Try.prog W 0 (fun _ => true) held fuel 73 cs = some x) (hw : ∀ m ∈ x.1.weights Try.prog 73, m ≤ reachBytes) :
    ∃ (A : Option Addr) (n c : Nat) (l : List (Int × Int)), cs = [.slice A n c] ∧ Cap A n c ∧ l.length = n ∧ Sees W W.heap.size A (pcells l) := by
  obtain ⟨A, n, c, l, e, hA, hl, hnc, hb, hs, _⟩ := open_flat (α := Int × Int) (f := fun u => [.int .i64 u.1, .int .i64 u.2]) (Q := fun _ => True) (K := 2) (fun _ => rfl) (by omega) Try.underlying73 (by kernel_rfl) (fun cs y n hcl ht _ => by
    obtain ⟨a, b, e⟩ := two_of Try.underlying95 (by kernel_rfl) Try.underlying3 Try.underlying3 hcl ht
    exact ⟨(a, b), e, trivial⟩) h hw
  rw [bytes_slot] at hb
  unfold reachBytes at hb
  exact ⟨A, n, c, l, e, ⟨hA, hnc, by omega⟩, hl, hs⟩
set_option maxRecDepth 100000 in
theorem open_code_in {fuel : Nat} {cs : List Value} {x : DataW H × List MemPlace} (h : DataW.trod enc Try.prog W 0 (fun _ => true) held fuel 22 cs = some x) (hw : ∀ m ∈ x.1.weights Try.prog 22, m ≤ reachBytes) :
    ∃ (A : Option Addr) (n c : Nat) (l : List Ins), cs = [.slice A n c] ∧ Cap A n c ∧ l.length = n ∧ Sees W W.heap.size A (icells l) := by
  obtain ⟨A, n, c, l, e, hA, hl, hnc, hb, hs, _⟩ := open_flat (α := Ins) (f := icell) (Q := fun _ => True) (K := 5) icell_len (by omega) Try.underlying22 (by kernel_rfl) (fun cs y n hcl ht _ => by
    obtain ⟨a, b, c, d, m, e⟩ := five_of Try.underlying27 (by kernel_rfl) Try.underlying3 Try.underlying3 Try.underlying3 Try.underlying3 Try.underlying25 hcl ht
    exact ⟨⟨a, b, c, d, m⟩, e, trivial⟩) h hw
  rw [bytes_instr] at hb
  unfold reachBytes at hb
  exact ⟨A, n, c, l, e, ⟨hA, hnc, by omega⟩, hl, hs⟩
set_option maxRecDepth 100000 in
/-- The three fields of a function. -/
theorem func_of {f0 f1 f2 : Field} {fuel : Nat} {cs : List Value} {x : DataW H × List MemPlace} (he : Try.prog.underlying 75 = some (.struct #[f0, f1, f2])) (hone : oneCellFields Try.prog #[f0, f1, f2] = true) (u0 : Try.prog.underlying f0.type = some (.int .i64)) (t1 : f1.type = 73) (t2 : f2.type = 22) (hl : cs.length = 3)
    (h : DataW.trod enc Try.prog W 0 (fun _ => true) held fuel 75 cs = some x) (hw : ∀ m ∈ x.1.weights Try.prog 75, m ≤ reachBytes) : ∃ a : Hd, cs = hcell a ∧ ∃ f : Fn, HdAt W 0 W.heap.size a f := by
  obtain ⟨ys, n, _, hx, _, hyl, hg⟩ := DataW.trod_struct he h
  match cs, hl, ys, hyl with
  | [c0, c1, c2], _, [y0, y1, y2], _ =>
    have g0 := hg 0 f0 rfl
    have g1 := hg 1 f1 rfl
    have g2 := hg 2 f2 rfl
    obtain ⟨o0, k0⟩ := hone_of hone 0 f0 rfl
    obtain ⟨o1, k1⟩ := hone_of hone 1 f1 rfl
    obtain ⟨o2, k2⟩ := hone_of hone 2 f2 rfl
    rw [o0, k0] at g0
    rw [o1, k1] at g1
    rw [o2, k2] at g2
    have hwt : ∀ m ∈ DataW.weightsEach Try.prog [f0.type, f1.type, f2.type] [y0.1, y1.1, y2.1], m ≤ reachBytes := by
      have e : x.1.weights Try.prog 75 = DataW.weightsEach Try.prog [f0.type, f1.type, f2.type] [y0.1, y1.1, y2.1] := by
        rw [hx]
        simp only [DataW.weights, he, List.map_cons, List.map_nil]
      rw [← e]
      exact hw
    obtain ⟨n0, e0, _, _⟩ := DataW.trod_int (x := y0) u0 (by simpa using g0)
    obtain ⟨A1, n1, d1, l1, e1, k1', h1, s1⟩ := open_slots_in (x := y1) (by rw [t1] at g1; simpa using g1) (fun m hm => hwt m (DataW.weights_mem_each (j := 1) (t := f1.type) (d := y1.1) rfl rfl m (by rw [t1]; exact hm)))
    obtain ⟨A2, n2, d2, l2, e2, k2', h2, s2⟩ := open_code_in (x := y2) (by rw [t2] at g2; simpa using g2) (fun m hm => hwt m (DataW.weights_mem_each (j := 2) (t := f2.type) (d := y2.1) rfl rfl m (by rw [t2]; exact hm)))
    simp only [List.cons.injEq, and_true] at e0 e1 e2
    subst e0 e1 e2
    exact ⟨⟨n0, A1, n1, d1, A2, n2, d2⟩, rfl, ⟨n0, l1, l2⟩, ⟨rfl, h1, h2, k1', k2', Far.zero _, Far.zero _, s1, s2⟩⟩
theorem fns_of (W : World) : ∀ hs : List Hd, (∀ a ∈ hs, ∃ f : Fn, HdAt W 0 W.heap.size a f) → ∃ F : Pg, Hds W 0 W.heap.size hs F := by
  intro hs
  induction hs with
  | nil => exact fun _ => ⟨[], rfl, fun k h f e => by simp at e⟩
  | cons a r ih =>
    intro hq
    obtain ⟨f, hf⟩ := hq a List.mem_cons_self
    obtain ⟨F, hl, hF⟩ := ih fun b hb => hq b (List.mem_cons_of_mem _ hb)
    refine ⟨f :: F, by simp [hl], fun k h g e1 e2 => ?_⟩
    cases k with
    | zero => simp at e1 e2; subst e1 e2; exact hf
    | succ k => simp at e1 e2; exact hF k h g e1 e2
set_option maxRecDepth 100000 in
/-- A program that came in. -/
theorem open_program {b0 : Nat} {r : Reach} {v : Value} {d : DataW H} {p : List MemPlace} (hval : Value.okWide Try.prog W r b0 57 v) (h : DataW.Trod enc Try.prog W 0 (fun _ => true) true 57 v d p) (hw : ∀ m ∈ d.weights Try.prog 57, m ≤ reachBytes) :
    ∃ (A : Option Addr) (n c : Nat) (hs : List Hd) (F : Pg), v = gv A n c ∧ PgAt W 0 W.heap.size A n c hs F := by
  obtain ⟨cs, rfl, hsz⟩ := okWide_struct Try.underlying57 hval
  obtain ⟨l⟩ := cs
  match l, hsz.trans (show Try.prog.cellsOf 57 = 1 by kernel_rfl) with
  | [c0], _ =>
    obtain ⟨fuel, hf⟩ := h
    obtain ⟨y0, n, hx, _, hg⟩ := trod_struct1 Try.underlying57 hf
    simp only [Prod.mk.injEq] at hx
    have hwt : ∀ m ∈ y0.1.weights Try.prog 55, m ≤ reachBytes := fun m hm => hw m (by
      rw [hx.1]
      simp only [DataW.weights, Try.underlying57, List.map_cons, List.map_nil, DataW.weightsEach, List.append_nil]
      exact hm)
    have hg' : DataW.trod enc Try.prog W 0 (fun _ => true) true n 55 [c0] = some y0 := by
      have k0 : Try.prog.cellsOf 55 = 1 := by kernel_rfl
      simpa [Value.cells, k0] using hg
    obtain ⟨A, n', c, hs, e, hA, hl, hnc, hb, hsee, hq⟩ := open_flat (α := Hd) (f := hcell) (Q := fun a => ∃ f : Fn, HdAt W 0 W.heap.size a f) (K := 3) hcell_len (by omega) Try.underlying55 (by kernel_rfl) (fun cs y n hcl ht hw' => func_of Try.underlying75 (by kernel_rfl) Try.underlying3 rfl rfl hcl ht hw') hg' hwt
    rw [bytes_func] at hb
    unfold reachBytes at hb
    obtain ⟨F, hF⟩ := fns_of W hs hq
    simp only [List.cons.injEq, and_true] at e
    subst e
    exact ⟨A, n', c, hs, F, rfl, ⟨by rw [← hF.len, hl], ⟨hA, hnc, by omega⟩, Far.zero _, hsee, hF⟩⟩
end
end Go.Proofs.Ytjgoldlebmfiiaa
