import Derived.Test.YtjgoldlebmfiiaaMKa
import Derived.Test.YtjgoldlebmfiiaaMKb
import Derived.OpenShut
import Derived.Carry
import Derived.Lib.SmallJoins
import Derived.Deep.Slices
import Derived.Deep.Fields
import Derived.SizedLaws
import Derived.ChangeSame
set_option linter.unusedVariables false
set_option linter.unusedSimpArgs false
section
/-
  From the walk of a law to its row: a law that returns true and leaves all that was in memory as it was meets 'true; the input reads as it did'; what a slice of bytes that came in gives. No function of the program is named here.
-/
namespace Go.Proofs.Ytjgoldlebmfiiaa
open Go.ChangeShapes Go.WideShapes Go.ChangeAt Go.RowKit

theorem bounds_u64 {n : Int} (h : (Lit.int .u64 n).wf = true) : 0 ≤ n ∧ n ≤ 18446744073709551615 := by
  simp [Lit.wf, IntKind.min, IntKind.max, IntKind.signed, IntKind.bits] at h
  omega

section
variable {H : Type} {enc : TypeId × Value → H} {P : Program}

theorem trodAll_after (hl : laidOutB P = true) {W W' : World} (hb : Below W.heap.size W W') : ∀ (ts : List TypeId) (vs : List Value) (ds : List (DataW H)) (ps : List MemPlace),
    (∀ t ∈ ts, P.readableRec t = true ∧ t < P.types.size) → DataW.TrodAll enc P W 0 (fun _ => true) true ts vs ds ps → (∀ x ∈ ps, x.block < W.heap.size) →
    DataW.TrodAll enc P W' 0 (fun b => decide (b < W.heap.size)) true ts vs ds ps := by
  intro ts
  induction ts with
  | nil => intro vs ds ps _ h _
           rcases vs with _ | ⟨v, vs⟩ <;> rcases ds with _ | ⟨d, ds⟩ <;> simp_all [DataW.TrodAll]
  | cons t ts ih =>
    intro vs ds ps hr h hlt
    rcases vs with _ | ⟨v, vs⟩
    · simp [DataW.TrodAll] at h
    rcases ds with _ | ⟨d, ds⟩
    · simp [DataW.TrodAll] at h
    obtain ⟨p, q, h1, h2, rfl⟩ := h
    have ht := hr t List.mem_cons_self
    exact ⟨p, q, Below.trod hl ht.1 ht.2 h1 hb (fun x hx => hlt x (List.mem_append_left _ hx)), ih vs ds q (fun t' h' => hr t' (List.mem_cons_of_mem _ h')) h2 (fun x hx => hlt x (List.mem_append_right _ hx)), rfl⟩

/-- What a law's row asks at the end. -/
theorem law_post {f : Func} {s : ChangeSpec} {apart : Bool} {W W' : World} {args : Array Value} {ds gs : List (DataW H)} {before : List MemPlace} {tb : TypeId} (hl : laidOutB P = true)
    (hp : ∀ t ∈ f.params.toList, P.readableRec t = true ∧ t < P.types.size) (hv : s.vars = []) (hr : f.resultTypes = #[tb]) (hb : P.underlying tb = some .bool)
    (hs : s.fn H ds = { results := [.lit (.bool true)], args := ds, vars := [] })
    (hW : DataW.Whole enc P f.params.toList s.vars apart W args.toList ds gs before) (hB : Below W.heap.size W W') :
    s.post enc P f apart true false false W args (.bool true) W' := by
  have hW' := hW
  obtain ⟨p, q, hA, hV, rfl, hfz, hnd⟩ := hW
  rw [hv] at hV
  obtain ⟨rfl, rfl⟩ := trodVars_none hV
  have e : s.fn H (ds ++ []) = { results := [.lit (.bool true)], args := ds, vars := [] } := by rw [List.append_nil]; exact hs
  refine ⟨ds, [], p ++ [], [], p, [], hW', ?_, ?_, ?_, hB.frame _, fun h => by cases h⟩
  · rw [e, hr]
    exact trodAll_mk1 (shut_bool hb _)
  · rw [e]
    exact trodAll_after hl hB _ _ _ _ hp hA (fun x hx => hW'.lt x (List.mem_append_left _ hx))
  · rw [e, hv]
    rfl

/-- What a slice of bytes that came in gives. -/
theorem open_u8s {W : World} {base : Nat} {t e : TypeId} {v : Value} {d : DataW H} {p : List MemPlace} (ht : P.underlying t = some (.slice e)) (he : P.underlying e = some (.int .u8)) (hc : P.cellsOf e = 1)
    (hval : Value.okWide P W .any base t v) (h : DataW.Trod enc P W 0 (fun _ => true) true t v d p) :
    ∃ (A : Option Addr) (n c : Nat) (zs : List Int), v = .slice A n c ∧ (A = none → c = 0) ∧ zs.length = n ∧ n ≤ 9223372036854775807 ∧ Sees W W.heap.size A (cellsU8 zs) ∧ (∀ z ∈ zs, 0 ≤ z ∧ z ≤ 255) ∧ n ≤ c := by
  obtain ⟨a1, len, cap, rfl⟩ := okWide_slice ht hval
  obtain ⟨fuel, hf⟩ := h
  rcases open_ints ht he hc hf with ⟨hcs, hx⟩ | ⟨a, len', cap', zs, hcs, _, hlc, hm, hz, hx, hcell, hwz⟩
  · simp [Value.cells] at hcs
    obtain ⟨rfl, rfl, rfl⟩ := hcs
    exact ⟨none, 0, 0, [], rfl, fun _ => rfl, rfl, by omega, Sees.nil_ _ _ _, fun z hz => (by cases hz), Nat.le_refl _⟩
  · simp [Value.cells] at hcs
    obtain ⟨rfl, rfl, rfl⟩ := hcs
    simp only [if_true] at hz
    have hlen : (zs.take len).length = len := by simp; omega
    refine ⟨some a, len, cap, zs.take len, rfl, fun hn => by simp at hn, hlen, by unfold maxLen at hm; omega, ?_, fun z hz' => ?_, hlc⟩
    · intro k u hu
      have hk : k < len := by
        rcases Nat.lt_or_ge k len with h1 | h1
        · exact h1
        · rw [List.getElem?_eq_none (by simp [cellsU8]; omega)] at hu; simp at hu
      rw [get_u8 (by omega)] at hu
      have hu' : u = .int .u8 (zs.getD k 0) := by
        injection hu with hu
        rw [← hu]
        simp [hk]
      subst hu'
      obtain ⟨ab, ao, spot⟩ := a
      have h0 := hcell 0 (by omega)
      have hspot : spot = none := by simpa [Addr.add] using World.cell?_spot h0
      subst hspot
      have hck := hcell k (by omega)
      rw [WideShapes.add_plain] at hck
      exact ⟨ab, ao, rfl, World.block_lt_of_cell? _ _ hck, hck⟩
    · have := bounds_u8 (hwz z (List.mem_of_mem_take hz'))
      exact ⟨by omega, by omega⟩
end
end Go.Proofs.Ytjgoldlebmfiiaa
end

section
/-
  What a program that came in gives: its functions, slots and instructions in memory. The reach bounds each slice. No function of the program is named here.
-/
namespace Go.Proofs.Ytjgoldlebmfiiaa
open Go.Joins Go.ChangeShapes Go.WideShapes Go.ChangeAt Go.RowKit Go.Deep

section
variable {H : Type} {enc : TypeId × Value → H} {P : Program} {W : World} {held : Bool}
theorem weightsAll_mem {e : TypeId} : ∀ {l : List (DataW H)} {d : DataW H}, d ∈ l → ∀ n ∈ d.weights P e, n ∈ DataW.weightsAll P e l
  | [], _, h => by cases h
  | x :: r, d, h => fun n hn => by
    simp only [DataW.weightsAll, List.mem_append]
    rcases List.mem_cons.1 h with rfl | h
    · exact .inl hn
    · exact .inr (weightsAll_mem h n hn)

/-- A slice whose elements lie in K cells each, read element by element. -/
theorem open_flat {α : Type} {f : α → List Value} {Q : α → Prop} {K : Nat} {t e : TypeId} (hf : ∀ a, (f a).length = K) (hK : 0 < K) (ht : P.underlying t = some (.slice e)) (hC : P.cellsOf e = K)
    (hel : ∀ (cs : List Value) (y : DataW H × List MemPlace) (n : Nat), cs.length = K → DataW.trod enc P W 0 (fun _ => true) held n e cs = some y → (∀ m ∈ y.1.weights P e, m ≤ reachBytes) → ∃ a, cs = f a ∧ Q a)
    {fuel : Nat} {cs : List Value} {x : DataW H × List MemPlace} (h : DataW.trod enc P W 0 (fun _ => true) held fuel t cs = some x) (hw : ∀ m ∈ x.1.weights P t, m ≤ reachBytes) :
    ∃ (A : Option Addr) (n c : Nat) (l : List α), cs = [.slice A n c] ∧ (A = none → c = 0) ∧ l.length = n ∧ n ≤ c ∧ c * P.bytesOf e ≤ reachBytes ∧ Sees W W.heap.size A (l.flatMap f) ∧ ∀ a ∈ l, Q a := by
  rcases open_slice ht h with ⟨hcs, hx⟩ | ⟨a, len, cap, m, n, D, Pl, hcs, _, hlc, hm, hmm, hx, hi⟩
  · exact ⟨none, 0, 0, [], hcs, fun _ => rfl, rfl, Nat.le_refl _, by simp, Sees.nil_ _ _ _, (fun a h => by cases h)⟩
  · simp only [if_true] at hmm
    subst hmm
    have hxw : x.1 = .slice ((List.range len).map D) ((List.range (m - len)).map fun j => D (len + j)) := by rw [hx]
    have hwt : x.1.weights P t = (((List.range len).map D).length + ((List.range (m - len)).map fun j => D (len + j)).length) * P.bytesOf e :: (DataW.weightsAll P e ((List.range len).map D) ++ DataW.weightsAll P e ((List.range (m - len)).map fun j => D (len + j))) := by
      rw [hxw]
      simp only [DataW.weights, ht]
    have hcap : m * P.bytesOf e ≤ reachBytes := by
      have := hw (m * P.bytesOf e) (by rw [hwt]; simp; left; congr 1; omega)
      exact this
    have hel2 : ∀ i, i < len → ∃ u : α, Q u ∧ ∀ r, r < K → W.cell? (a.add (i * K + r)) = (f u)[r]? := by
      intro i hlt
      obtain ⟨cs', hc, ht'⟩ := hi i (by omega)
      rw [hC] at hc
      obtain ⟨_, hcl, hat⟩ := World.cells?_some hc
      obtain ⟨u, hu, hq⟩ := hel cs' _ n hcl ht' (fun k hk => hw k (by
        rw [hwt]
        refine List.mem_cons_of_mem _ (List.mem_append_left _ (weightsAll_mem (d := D i) (List.mem_map.2 ⟨i, List.mem_range.2 hlt, rfl⟩) k hk))))
      refine ⟨u, hq, fun r hr => ?_⟩
      have := hat r hr
      rw [Go.Deep.add_add] at this
      rw [this, hu]
    have hex : ∀ k, k ≤ len → ∃ l : List α, l.length = k ∧ (∀ u ∈ l, Q u) ∧ ∀ i (u : α), l[i]? = some u → ∀ r, r < K → W.cell? (a.add (i * K + r)) = (f u)[r]? := by
      intro k
      induction k with
      | zero => exact fun _ => ⟨[], rfl, (fun u h => by cases h), (fun i u hu => by simp at hu)⟩
      | succ k ih =>
        intro hk
        obtain ⟨l, hl, hq, hcl⟩ := ih (by omega)
        obtain ⟨u, hqu, hu⟩ := hel2 k (by omega)
        refine ⟨l ++ [u], by simp [hl], (fun v hv => ?_), fun i v hv => ?_⟩
        · rcases List.mem_append.1 hv with h | h
          · exact hq v h
          · simp at h; subst h; exact hqu
        · rcases Nat.lt_or_ge i k with h2 | h2
          · rw [List.getElem?_append_left (by omega)] at hv
            exact hcl i v hv
          · rw [List.getElem?_append_right (by omega)] at hv
            obtain rfl : i = k := by
              rcases Nat.lt_or_ge (i - l.length) 1 with h3 | h3
              · omega
              · rw [List.getElem?_eq_none (by simpa using h3)] at hv; simp at hv
            rw [hl, Nat.sub_self] at hv
            simp at hv
            subst hv
            exact hu
    obtain ⟨l, hl, hq, hcl⟩ := hex len (Nat.le_refl _)
    refine ⟨some a, len, m, l, hcs, (fun h => by cases h), hl, hlc, hcap, ?_, hq⟩
    intro k u hu
    have hlen := flat_len hf l
    have hk : k < l.length * K := by
      rcases Nat.lt_or_ge k (l.length * K) with h2 | h2
      · exact h2
      · rw [List.getElem?_eq_none (by rw [hlen]; exact h2)] at hu; simp at hu
    have hq1 : k / K < l.length := Nat.div_lt_of_lt_mul (by rw [Nat.mul_comm]; exact hk)
    have hr1 : k % K < K := Nat.mod_lt _ hK
    have hdm : k / K * K + k % K = k := Nat.div_add_mod' k K
    have hv := List.getElem?_eq_getElem hq1
    have hfa := flat_at hf l (k / K) _ hv (k % K) hr1
    rw [hdm, hu] at hfa
    have hc := hcl (k / K) _ hv (k % K) hr1
    rw [hdm, ← hfa] at hc
    obtain ⟨ab, ao, spot⟩ := a
    have hspot : spot = none := by
      have h0 : 0 < l.length := Nat.pos_of_ne_zero fun e => by rw [e] at hk; simp at hk
      have hc0 := hcl 0 _ (List.getElem?_eq_getElem h0) 0 hK
      rw [List.getElem?_eq_getElem (by rw [hf]; exact hK)] at hc0
      simpa [Addr.add] using World.cell?_spot hc0
    subst hspot
    rw [WideShapes.add_plain] at hc
    exact ⟨ab, ao, rfl, World.block_lt_of_cell? _ _ hc, hc⟩
end

theorem bytes_slot : Try.prog.bytesOf 95 = 16 := by kernel_rfl
theorem bytes_instr : Try.prog.bytesOf 27 = 40 := by kernel_rfl
theorem bytes_func : Try.prog.bytesOf 75 = 56 := by kernel_rfl
section
variable {H : Type} {enc : TypeId × Value → H} {P : Program} {W : World} {base : Nat} {sp : Nat → Bool} {held : Bool}
theorem two_of {e : TypeId} {f0 f1 : Field} {fuel : Nat} {cs : List Value} {x : DataW H × List MemPlace} (he : P.underlying e = some (.struct #[f0, f1])) (hone : oneCellFields P #[f0, f1] = true) (u0 : P.underlying f0.type = some (.int .i64)) (u1 : P.underlying f1.type = some (.int .i64)) (hl : cs.length = 2)
    (h : DataW.trod enc P W base sp held fuel e cs = some x) : ∃ a b : Int, cs = [.int .i64 a, .int .i64 b] := by
  obtain ⟨ys, n, _, hx, _, hyl, hg⟩ := DataW.trod_struct he h
  match cs, hl, ys, hyl with
  | [c0, c1], _, [y0, y1], _ =>
    have g0 := hg 0 f0 rfl
    have g1 := hg 1 f1 rfl
    obtain ⟨o0, k0⟩ := hone_of hone 0 f0 rfl
    obtain ⟨o1, k1⟩ := hone_of hone 1 f1 rfl
    rw [o0, k0] at g0
    rw [o1, k1] at g1
    obtain ⟨n0, e0, _, _⟩ := DataW.trod_int (x := y0) u0 (by simpa using g0)
    obtain ⟨n1, e1, _, _⟩ := DataW.trod_int (x := y1) u1 (by simpa using g1)
    simp only [List.cons.injEq, and_true] at e0 e1
    subst e0 e1
    exact ⟨n0, n1, rfl⟩
theorem five_of {e : TypeId} {f0 f1 f2 f3 f4 : Field} {fuel : Nat} {cs : List Value} {x : DataW H × List MemPlace} (he : P.underlying e = some (.struct #[f0, f1, f2, f3, f4])) (hone : oneCellFields P #[f0, f1, f2, f3, f4] = true) (u0 : P.underlying f0.type = some (.int .i64)) (u1 : P.underlying f1.type = some (.int .i64)) (u2 : P.underlying f2.type = some (.int .i64)) (u3 : P.underlying f3.type = some (.int .i64)) (u4 : P.underlying f4.type = some (.int .u64)) (hl : cs.length = 5)
    (h : DataW.trod enc P W base sp held fuel e cs = some x) : ∃ a b c d m : Int, cs = [.int .i64 a, .int .i64 b, .int .i64 c, .int .i64 d, .int .u64 m] := by
  obtain ⟨ys, n, _, hx, _, hyl, hg⟩ := DataW.trod_struct he h
  match cs, hl, ys, hyl with
  | [c0, c1, c2, c3, c4], _, [y0, y1, y2, y3, y4], _ =>
    have g0 := hg 0 f0 rfl
    have g1 := hg 1 f1 rfl
    have g2 := hg 2 f2 rfl
    have g3 := hg 3 f3 rfl
    have g4 := hg 4 f4 rfl
    obtain ⟨o0, k0⟩ := hone_of hone 0 f0 rfl
    obtain ⟨o1, k1⟩ := hone_of hone 1 f1 rfl
    obtain ⟨o2, k2⟩ := hone_of hone 2 f2 rfl
    obtain ⟨o3, k3⟩ := hone_of hone 3 f3 rfl
    obtain ⟨o4, k4⟩ := hone_of hone 4 f4 rfl
    rw [o0, k0] at g0
    rw [o1, k1] at g1
    rw [o2, k2] at g2
    rw [o3, k3] at g3
    rw [o4, k4] at g4
    obtain ⟨n0, e0, _, _⟩ := DataW.trod_int (x := y0) u0 (by simpa using g0)
    obtain ⟨n1, e1, _, _⟩ := DataW.trod_int (x := y1) u1 (by simpa using g1)
    obtain ⟨n2, e2, _, _⟩ := DataW.trod_int (x := y2) u2 (by simpa using g2)
    obtain ⟨n3, e3, _, _⟩ := DataW.trod_int (x := y3) u3 (by simpa using g3)
    obtain ⟨n4, e4, _, _⟩ := DataW.trod_int (x := y4) u4 (by simpa using g4)
    simp only [List.cons.injEq, and_true] at e0 e1 e2 e3 e4
    subst e0 e1 e2 e3 e4
    exact ⟨n0, n1, n2, n3, n4, rfl⟩
end

section
variable {H : Type} {enc : TypeId × Value → H} {W : World} {held : Bool}
set_option maxRecDepth 100000 in
theorem open_slots_in {fuel : Nat} {cs : List Value} {x : DataW H × List MemPlace} (h : DataW.trod enc Try.prog W 0 (fun _ => true) held fuel 73 cs = some x) (hw : ∀ m ∈ x.1.weights Try.prog 73, m ≤ reachBytes) :
    ∃ (A : Option Addr) (n c : Nat) (l : List (Int × Int)), cs = [.slice A n c] ∧ Cap A n c ∧ l.length = n ∧ Sees W W.heap.size A (pcells l) := by
  obtain ⟨A, n, c, l, e, hA, hl, hnc, hb, hs, _⟩ := open_flat (α := Int × Int) (f := fun u => [.int .i64 u.1, .int .i64 u.2]) (Q := fun _ => True) (K := 2) (fun _ => rfl) (by omega) Try.underlying73 (by kernel_rfl) (fun cs y n hcl ht _ => by
    obtain ⟨a, b, e⟩ := two_of Try.underlying95 (by kernel_rfl) Try.underlying3 Try.underlying3 hcl ht
    exact ⟨(a, b), e, trivial⟩) h hw
  rw [bytes_slot] at hb
  unfold reachBytes at hb
  exact ⟨A, n, c, l, e, ⟨hA, hnc, by omega⟩, hl, hs⟩
set_option maxRecDepth 100000 in
theorem open_code_in {fuel : Nat} {cs : List Value} {x : DataW H × List MemPlace} (h : DataW.trod enc Try.prog W 0 (fun _ => true) held fuel 22 cs = some x) (hw : ∀ m ∈ x.1.weights Try.prog 22, m ≤ reachBytes) :
    ∃ (A : Option Addr) (n c : Nat) (l : List Ins), cs = [.slice A n c] ∧ Cap A n c ∧ l.length = n ∧ Sees W W.heap.size A (icells l) := by
  obtain ⟨A, n, c, l, e, hA, hl, hnc, hb, hs, _⟩ := open_flat (α := Ins) (f := icell) (Q := fun _ => True) (K := 5) icell_len (by omega) Try.underlying22 (by kernel_rfl) (fun cs y n hcl ht _ => by
    obtain ⟨a, b, c, d, m, e⟩ := five_of Try.underlying27 (by kernel_rfl) Try.underlying3 Try.underlying3 Try.underlying3 Try.underlying3 Try.underlying25 hcl ht
    exact ⟨⟨a, b, c, d, m⟩, e, trivial⟩) h hw
  rw [bytes_instr] at hb
  unfold reachBytes at hb
  exact ⟨A, n, c, l, e, ⟨hA, hnc, by omega⟩, hl, hs⟩
set_option maxRecDepth 100000 in
/-- The three fields of a function. -/
theorem func_of {f0 f1 f2 : Field} {fuel : Nat} {cs : List Value} {x : DataW H × List MemPlace} (he : Try.prog.underlying 75 = some (.struct #[f0, f1, f2])) (hone : oneCellFields Try.prog #[f0, f1, f2] = true) (u0 : Try.prog.underlying f0.type = some (.int .i64)) (t1 : f1.type = 73) (t2 : f2.type = 22) (hl : cs.length = 3)
    (h : DataW.trod enc Try.prog W 0 (fun _ => true) held fuel 75 cs = some x) (hw : ∀ m ∈ x.1.weights Try.prog 75, m ≤ reachBytes) : ∃ a : Hd, cs = hcell a ∧ ∃ f : Fn, HdAt W 0 W.heap.size a f := by
  obtain ⟨ys, n, _, hx, _, hyl, hg⟩ := DataW.trod_struct he h
  match cs, hl, ys, hyl with
  | [c0, c1, c2], _, [y0, y1, y2], _ =>
    have g0 := hg 0 f0 rfl
    have g1 := hg 1 f1 rfl
    have g2 := hg 2 f2 rfl
    obtain ⟨o0, k0⟩ := hone_of hone 0 f0 rfl
    obtain ⟨o1, k1⟩ := hone_of hone 1 f1 rfl
    obtain ⟨o2, k2⟩ := hone_of hone 2 f2 rfl
    rw [o0, k0] at g0
    rw [o1, k1] at g1
    rw [o2, k2] at g2
    have hwt : ∀ m ∈ DataW.weightsEach Try.prog [f0.type, f1.type, f2.type] [y0.1, y1.1, y2.1], m ≤ reachBytes := by
      have e : x.1.weights Try.prog 75 = DataW.weightsEach Try.prog [f0.type, f1.type, f2.type] [y0.1, y1.1, y2.1] := by
        rw [hx]
        simp only [DataW.weights, he, List.map_cons, List.map_nil]
      rw [← e]
      exact hw
    obtain ⟨n0, e0, _, _⟩ := DataW.trod_int (x := y0) u0 (by simpa using g0)
    obtain ⟨A1, n1, d1, l1, e1, k1', h1, s1⟩ := open_slots_in (x := y1) (by rw [t1] at g1; simpa using g1) (fun m hm => hwt m (DataW.weights_mem_each (j := 1) (t := f1.type) (d := y1.1) rfl rfl m (by rw [t1]; exact hm)))
    obtain ⟨A2, n2, d2, l2, e2, k2', h2, s2⟩ := open_code_in (x := y2) (by rw [t2] at g2; simpa using g2) (fun m hm => hwt m (DataW.weights_mem_each (j := 2) (t := f2.type) (d := y2.1) rfl rfl m (by rw [t2]; exact hm)))
    simp only [List.cons.injEq, and_true] at e0 e1 e2
    subst e0 e1 e2
    exact ⟨⟨n0, A1, n1, d1, A2, n2, d2⟩, rfl, ⟨n0, l1, l2⟩, ⟨rfl, h1, h2, k1', k2', Far.zero _, Far.zero _, s1, s2⟩⟩
theorem fns_of (W : World) : ∀ hs : List Hd, (∀ a ∈ hs, ∃ f : Fn, HdAt W 0 W.heap.size a f) → ∃ F : Pg, Hds W 0 W.heap.size hs F := by
  intro hs
  induction hs with
  | nil => exact fun _ => ⟨[], rfl, fun k h f e => by simp at e⟩
  | cons a r ih =>
    intro hq
    obtain ⟨f, hf⟩ := hq a List.mem_cons_self
    obtain ⟨F, hl, hF⟩ := ih fun b hb => hq b (List.mem_cons_of_mem _ hb)
    refine ⟨f :: F, by simp [hl], fun k h g e1 e2 => ?_⟩
    cases k with
    | zero => simp at e1 e2; subst e1 e2; exact hf
    | succ k => simp at e1 e2; exact hF k h g e1 e2
set_option maxRecDepth 100000 in
/-- A program that came in. -/
theorem open_program {b0 : Nat} {r : Reach} {v : Value} {d : DataW H} {p : List MemPlace} (hval : Value.okWide Try.prog W r b0 57 v) (h : DataW.Trod enc Try.prog W 0 (fun _ => true) true 57 v d p) (hw : ∀ m ∈ d.weights Try.prog 57, m ≤ reachBytes) :
    ∃ (A : Option Addr) (n c : Nat) (hs : List Hd) (F : Pg), v = gv A n c ∧ PgAt W 0 W.heap.size A n c hs F := by
  obtain ⟨cs, rfl, hsz⟩ := okWide_struct Try.underlying57 hval
  obtain ⟨l⟩ := cs
  match l, hsz.trans (show Try.prog.cellsOf 57 = 1 by kernel_rfl) with
  | [c0], _ =>
    obtain ⟨fuel, hf⟩ := h
    obtain ⟨y0, n, hx, _, hg⟩ := trod_struct1 Try.underlying57 hf
    simp only [Prod.mk.injEq] at hx
    have hwt : ∀ m ∈ y0.1.weights Try.prog 55, m ≤ reachBytes := fun m hm => hw m (by
      rw [hx.1]
      simp only [DataW.weights, Try.underlying57, List.map_cons, List.map_nil, DataW.weightsEach, List.append_nil]
      exact hm)
    have hg' : DataW.trod enc Try.prog W 0 (fun _ => true) true n 55 [c0] = some y0 := by
      have k0 : Try.prog.cellsOf 55 = 1 := by kernel_rfl
      simpa [Value.cells, k0] using hg
    obtain ⟨A, n', c, hs, e, hA, hl, hnc, hb, hsee, hq⟩ := open_flat (α := Hd) (f := hcell) (Q := fun a => ∃ f : Fn, HdAt W 0 W.heap.size a f) (K := 3) hcell_len (by omega) Try.underlying55 (by kernel_rfl) (fun cs y n hcl ht hw' => func_of Try.underlying75 (by kernel_rfl) Try.underlying3 rfl rfl hcl ht hw') hg' hwt
    rw [bytes_func] at hb
    unfold reachBytes at hb
    obtain ⟨F, hF⟩ := fns_of W hs hq
    simp only [List.cons.injEq, and_true] at e
    subst e
    exact ⟨A, n', c, hs, F, rfl, ⟨by rw [← hF.len, hl], ⟨hA, hnc, by omega⟩, Far.zero _, hsee, hF⟩⟩
end
end Go.Proofs.Ytjgoldlebmfiiaa
end

section
/-
  What an instruction, a frame, a target that came in give: their numbers; frames and instructions in memory. The reach bounds each slice. No function of the program is named here.
-/
namespace Go.Proofs.Ytjgoldlebmfiiaa
open Go.Joins Go.ChangeShapes Go.WideShapes Go.ChangeAt Go.RowKit Go.Deep

theorem bytes_frame : Try.prog.bytesOf 24 = 40 := by kernel_rfl
section
variable {H : Type} {enc : TypeId × Value → H} {W : World} {held : Bool}
set_option maxRecDepth 100000 in
/-- The three fields of a frame. -/
theorem frame_of {f0 f1 f2 : Field} {fuel : Nat} {cs : List Value} {x : DataW H × List MemPlace} (he : Try.prog.underlying 24 = some (.struct #[f0, f1, f2])) (hone : oneCellFields Try.prog #[f0, f1, f2] = true) (u0 : Try.prog.underlying f0.type = some (.int .i64)) (u1 : Try.prog.underlying f1.type = some (.int .i64)) (t2 : f2.type = 22) (hl : cs.length = 3)
    (h : DataW.trod enc Try.prog W 0 (fun _ => true) held fuel 24 cs = some x) (hw : ∀ m ∈ x.1.weights Try.prog 24, m ≤ reachBytes) : ∃ a : Fd, cs = fdcell a ∧ ∃ f : Fm, FdAt W 0 W.heap.size a f := by
  obtain ⟨ys, n, _, hx, _, hyl, hg⟩ := DataW.trod_struct he h
  match cs, hl, ys, hyl with
  | [c0, c1, c2], _, [y0, y1, y2], _ =>
    have g0 := hg 0 f0 rfl
    have g1 := hg 1 f1 rfl
    have g2 := hg 2 f2 rfl
    obtain ⟨o0, k0⟩ := hone_of hone 0 f0 rfl
    obtain ⟨o1, k1⟩ := hone_of hone 1 f1 rfl
    obtain ⟨o2, k2⟩ := hone_of hone 2 f2 rfl
    rw [o0, k0] at g0
    rw [o1, k1] at g1
    rw [o2, k2] at g2
    have hwt : ∀ m ∈ DataW.weightsEach Try.prog [f0.type, f1.type, f2.type] [y0.1, y1.1, y2.1], m ≤ reachBytes := by
      have e : x.1.weights Try.prog 24 = DataW.weightsEach Try.prog [f0.type, f1.type, f2.type] [y0.1, y1.1, y2.1] := by
        rw [hx]
        simp only [DataW.weights, he, List.map_cons, List.map_nil]
      rw [← e]
      exact hw
    obtain ⟨n0, e0, _, _⟩ := DataW.trod_int (x := y0) u0 (by simpa using g0)
    obtain ⟨n1, e1, _, _⟩ := DataW.trod_int (x := y1) u1 (by simpa using g1)
    obtain ⟨A2, n2, d2, l2, e2, k2', h2, s2⟩ := open_code_in (x := y2) (by rw [t2] at g2; simpa using g2) (fun m hm => hwt m (DataW.weights_mem_each (j := 2) (t := f2.type) (d := y2.1) rfl rfl m (by rw [t2]; exact hm)))
    simp only [List.cons.injEq, and_true] at e0 e1 e2
    subst e0 e1 e2
    exact ⟨⟨n0, n1, A2, n2, d2⟩, rfl, ⟨n0, n1, l2⟩, ⟨rfl, rfl, h2, k2', Far.zero _, s2⟩⟩
theorem fms_of (W : World) : ∀ hs : List Fd, (∀ a ∈ hs, ∃ f : Fm, FdAt W 0 W.heap.size a f) → ∃ F : Tg, Fds W 0 W.heap.size hs F := by
  intro hs
  induction hs with
  | nil => exact fun _ => ⟨[], rfl, fun k h f e => by simp at e⟩
  | cons a r ih =>
    intro hq
    obtain ⟨f, hf⟩ := hq a List.mem_cons_self
    obtain ⟨F, hl, hF⟩ := ih fun b hb => hq b (List.mem_cons_of_mem _ hb)
    refine ⟨f :: F, by simp [hl], fun k h g e1 e2 => ?_⟩
    cases k with
    | zero => simp at e1 e2; subst e1 e2; exact hf
    | succ k => simp at e1 e2; exact hF k h g e1 e2
theorem array2 {α : Type} {cs : Array α} (h : cs.size = 2) : ∃ c0 c1, cs = #[c0, c1] := by
  obtain ⟨l⟩ := cs
  match l, h with
  | [c0, c1], _ => exact ⟨c0, c1, rfl⟩
theorem array3 {α : Type} {cs : Array α} (h : cs.size = 3) : ∃ c0 c1 c2, cs = #[c0, c1, c2] := by
  obtain ⟨l⟩ := cs
  match l, h with
  | [c0, c1, c2], _ => exact ⟨c0, c1, c2, rfl⟩
theorem array5 {α : Type} {cs : Array α} (h : cs.size = 5) : ∃ c0 c1 c2 c3 c4, cs = #[c0, c1, c2, c3, c4] := by
  obtain ⟨l⟩ := cs
  match l, h with
  | [c0, c1, c2, c3, c4], _ => exact ⟨c0, c1, c2, c3, c4, rfl⟩
set_option maxRecDepth 100000 in
theorem target_of0 {r : Reach} {b0 : Nat} {v : Value} {d : DataW H} {p : List MemPlace} (f0 f1 : Field) (hs : Try.prog.underlying 39 = some (.struct #[f0, f1]))
    (h0 : f0.type = 3) (h1 : f1.type = 37) (o0 : f0.offset = 0) (o1 : f1.offset = 1)
    (hv : Value.okWide Try.prog W r b0 39 v) (h : DataW.Trod enc Try.prog W 0 (fun _ => true) held 39 v d p) (hw : ∀ m ∈ d.weights Try.prog 39, m ≤ reachBytes) :
    ∃ (Al : Int) (A : Option Addr) (n c : Nat) (hs : List Fd) (F : Tg), v = tv Al A n c ∧ TgAt W 0 W.heap.size A n c hs F := by
  obtain ⟨cs, rfl, hsz⟩ := okWide_struct hs hv
  obtain ⟨c0, c1, rfl⟩ := array2 (hsz.trans (by kernel_rfl))
  obtain ⟨fuel, hf⟩ := h
  obtain ⟨xs, n, _, hx, _, hlen, hg⟩ := DataW.trod_struct hs hf
  match xs, hlen with
  | [y0, y1], _ =>
    have g0 := hg 0 f0 rfl
    have g1 := hg 1 f1 rfl
    have hwt : ∀ m ∈ DataW.weightsEach Try.prog [f0.type, f1.type] [y0.1, y1.1], m ≤ reachBytes := by
      have e : d.weights Try.prog 39 = DataW.weightsEach Try.prog [f0.type, f1.type] [y0.1, y1.1] := by
        simp only [Prod.mk.injEq] at hx
        rw [hx.1]
        simp only [DataW.weights, hs, List.map_cons, List.map_nil]
      rw [← e]
      exact hw
    have hwt1 : ∀ m ∈ y1.1.weights Try.prog 37, m ≤ reachBytes := fun m hm => hwt m (DataW.weights_mem_each (j := 1) (t := f1.type) (d := y1.1) rfl rfl m (by rw [h1]; exact hm))
    rw [h0, o0, show Try.prog.cellsOf 3 = 1 by kernel_rfl] at g0
    rw [h1, o1, show Try.prog.cellsOf 37 = 1 by kernel_rfl] at g1
    obtain ⟨k, e0, _, w0⟩ := DataW.trod_int (x := y0) Try.underlying3 (by simpa [Value.cells] using g0)
    obtain ⟨A, n', c, hds, e, hA, hl, hnc, hb, hsee, hq⟩ := open_flat (cs := [c1]) (α := Fd) (f := fdcell) (Q := fun a => ∃ f : Fm, FdAt W 0 W.heap.size a f) (K := 3) fdcell_len (by omega) Try.underlying37 (by kernel_rfl) (fun cs y n hcl ht hw' => frame_of Try.underlying24 (by kernel_rfl) Try.underlying3 Try.underlying3 rfl hcl ht hw') (by simpa [Value.cells] using g1) hwt1
    rw [bytes_frame] at hb
    unfold reachBytes at hb
    obtain ⟨F, hF⟩ := fms_of W hds hq
    simp only [List.cons.injEq, and_true] at e0 e
    subst e0 e
    exact ⟨k, A, n', c, hds, F, rfl, ⟨by rw [← hF.len, hl], ⟨hA, hnc, by omega⟩, Far.zero _, hsee, hF⟩⟩
set_option maxRecDepth 100000 in
/-- A target that came in. -/
theorem open_target {r : Reach} {b0 : Nat} {v : Value} {d : DataW H} {p : List MemPlace}
    (hv : Value.okWide Try.prog W r b0 39 v) (h : DataW.Trod enc Try.prog W 0 (fun _ => true) held 39 v d p) (hw : ∀ m ∈ d.weights Try.prog 39, m ≤ reachBytes) :
    ∃ (Al : Int) (A : Option Addr) (n c : Nat) (hs : List Fd) (F : Tg), v = tv Al A n c ∧ TgAt W 0 W.heap.size A n c hs F :=
  target_of0 _ _ Try.underlying39 rfl rfl rfl rfl hv h hw
set_option maxRecDepth 100000 in
/-- An instruction that came in. -/
theorem open_instr {r : Reach} {b0 : Nat} {v : Value} {d : DataW H} {p : List MemPlace} (hv : Value.okWide Try.prog W r b0 27 v) (h : DataW.Trod enc Try.prog W 0 (fun _ => true) held 27 v d p) : ∃ o a b c m : Int, v = iv o a b c m := by
  obtain ⟨cs, rfl, hsz⟩ := okWide_struct Try.underlying27 hv
  obtain ⟨c0, c1, c2, c3, c4, rfl⟩ := array5 (hsz.trans (by kernel_rfl))
  obtain ⟨fuel, hf⟩ := h
  obtain ⟨a, b, c, d, m, e⟩ := five_of (cs := [c0, c1, c2, c3, c4]) Try.underlying27 (by kernel_rfl) Try.underlying3 Try.underlying3 Try.underlying3 Try.underlying3 Try.underlying25 rfl (by simpa [Value.cells] using hf)
  simp only [List.cons.injEq, and_true] at e
  obtain ⟨rfl, rfl, rfl, rfl, rfl⟩ := e
  exact ⟨a, b, c, d, m, rfl⟩
set_option maxRecDepth 100000 in
/-- A frame that came in. -/
theorem open_frame {r : Reach} {b0 : Nat} {v : Value} {d : DataW H} {p : List MemPlace} (hv : Value.okWide Try.prog W r b0 24 v) (h : DataW.Trod enc Try.prog W 0 (fun _ => true) held 24 v d p) (hw : ∀ m ∈ d.weights Try.prog 24, m ≤ reachBytes) :
    ∃ (P S : Int) (A : Option Addr) (n c : Nat) (f : Fm), v = mv P S A n c ∧ FdAt W 0 W.heap.size ⟨P, S, A, n, c⟩ f := by
  obtain ⟨cs, rfl, hsz⟩ := okWide_struct Try.underlying24 hv
  obtain ⟨c0, c1, c2, rfl⟩ := array3 (hsz.trans (by kernel_rfl))
  obtain ⟨fuel, hf⟩ := h
  obtain ⟨a, e, f, hF⟩ := frame_of (cs := [c0, c1, c2]) Try.underlying24 (by kernel_rfl) Try.underlying3 Try.underlying3 rfl rfl (by simpa [Value.cells] using hf) hw
  obtain ⟨P, S, A, n, c⟩ := a
  unfold fdcell at e
  simp only [List.cons.injEq, and_true] at e
  obtain ⟨rfl, rfl, rfl⟩ := e
  exact ⟨P, S, A, n, c, f, rfl, hF⟩
set_option maxRecDepth 100000 in
/-- The numbers of a frame that came in. -/
theorem framev_of {r : Reach} {b0 : Nat} {v : Value} {d : DataW H} {p : List MemPlace} (f0 f1 f2 : Field) (hs : Try.prog.underlying 24 = some (.struct #[f0, f1, f2])) (hone : oneCellFields Try.prog #[f0, f1, f2] = true) (u0 : Try.prog.underlying f0.type = some (.int .i64)) (u1 : Try.prog.underlying f1.type = some (.int .i64)) (t2 : f2.type = 22)
    (hv : Value.okWide Try.prog W r b0 24 v) (h : DataW.Trod enc Try.prog W 0 (fun _ => true) held 24 v d p) : ∃ (P S : Int) (A : Option Addr) (n c : Nat), v = mv P S A n c := by
  obtain ⟨cs, rfl, hsz⟩ := okWide_struct hs hv
  obtain ⟨c0, c1, c2, rfl⟩ := array3 (hsz.trans (by kernel_rfl))
  obtain ⟨fuel, hf⟩ := h
  obtain ⟨ys, n, _, hx, _, hyl, hg⟩ := DataW.trod_struct hs hf
  match ys, hyl with
  | [y0, y1, y2], _ =>
    have g0 := hg 0 f0 rfl
    have g1 := hg 1 f1 rfl
    have g2 := hg 2 f2 rfl
    obtain ⟨o0, k0⟩ := hone_of hone 0 f0 rfl
    obtain ⟨o1, k1⟩ := hone_of hone 1 f1 rfl
    obtain ⟨o2, k2⟩ := hone_of hone 2 f2 rfl
    rw [o0, k0] at g0
    rw [o1, k1] at g1
    rw [o2, k2, t2] at g2
    obtain ⟨n0, e0, _, _⟩ := DataW.trod_int (x := y0) u0 (by simpa [Value.cells] using g0)
    obtain ⟨n1, e1, _, _⟩ := DataW.trod_int (x := y1) u1 (by simpa [Value.cells] using g1)
    have e2 : ∃ (A : Option Addr) (n c : Nat), c2 = .slice A n c := by
      have g2' : DataW.trod enc Try.prog W 0 (fun _ => true) held n 22 [c2] = some y2 := by simpa [Value.cells] using g2
      rcases open_slice Try.underlying22 g2' with ⟨hcs, _⟩ | ⟨a, len, cap, m, n, D, Pl, hcs, _⟩
      · simp only [List.cons.injEq, and_true] at hcs; exact ⟨_, _, _, hcs⟩
      · simp only [List.cons.injEq, and_true] at hcs; exact ⟨_, _, _, hcs⟩
    obtain ⟨A, m, c, e2⟩ := e2
    simp only [List.cons.injEq, and_true] at e0 e1
    subst e0 e1 e2
    exact ⟨n0, n1, A, m, c, rfl⟩
set_option maxRecDepth 100000 in
theorem open_framev {r : Reach} {b0 : Nat} {v : Value} {d : DataW H} {p : List MemPlace} (hv : Value.okWide Try.prog W r b0 24 v) (h : DataW.Trod enc Try.prog W 0 (fun _ => true) held 24 v d p) : ∃ (P S : Int) (A : Option Addr) (n c : Nat), v = mv P S A n c :=
  framev_of _ _ _ Try.underlying24 (by kernel_rfl) Try.underlying3 Try.underlying3 rfl hv h
end
end Go.Proofs.Ytjgoldlebmfiiaa
end
