import Derived.Test.YtidlnecgfgnllaaDoorMFnx
import Derived.Test.YtidlnecgfgnllaaDoorMFrn
import Derived.Test.YtidlnecgfgnllaaDoorMFrows
import Derived.Test.YtidlnecgfgnllaaDoorMFgr
import Derived.Deep.AppendLies
import Derived.Laws.MakeOwn
import Derived.Maps.AppendAt
import Derived.ChangeAlike
import Derived.Orders
import Derived.Deep.Quiet
import Derived.OrdersHeld
set_option linter.unusedVariables false
set_option linter.unusedSimpArgs false
section
/-
  Rows of rows that a call makes: slices of slices filled one after another. No function of the program is named here.
-/
namespace Go.Proofs.YtidlnecgfgnllaaDoor
open Go.RowKit

theorem fmade2 {P : Program} {t e : TypeId} {i : TypeInfo} {z : Value} {L : List Value} (ht : P.underlying t = some (.slice e)) (hi : P.info? e = some i) (hz : i.zero = some z) (hs : i.size = 1) (hb : i.bytes ≤ 64) (hc : z.cells = #[z])
    (n : Nat) (hm : n ≤ 1048576) (hL : List.replicate n z = L) (W : World) :
    (Instr.makeSlice t (.int .i64 (n : Int)) (.int .i64 (n : Int))).run P W = .ok (.slice (some ⟨W.heap.size, 0, none⟩) n n) (W.alloc (.cells L.toArray e)) := by
  have hbn : i.bytes * n ≤ 64 * 1048576 := Nat.mul_le_mul hb hm
  have h := run_make W t e i _ ht hi hz .i64 .i64 (n : Int) (n : Int) (by omega) (by omega) (by rw [← Int.natCast_mul]; omega) (by omega)
  rw [h, show ((n : Int)).toNat = n by omega, hs, Nat.mul_one, hc, madeCells_list z n, hL]
theorem Row.append2 {wr w2 : World} {base G t n : Nat} {v : Value} {xs cs : List Value} {o : Obj} (h : Row wr G t cs) (ho : wr.ownsRow base 3 1 v n xs) (ht : t ≠ 3) (hg : (wr.alloc o).grownBy w2 v.ownBlock) : Row w2 G t cs :=
  (h.alloc o).grown hg fun e => by
    rcases fown_apart ho h ht with h1 | h1
    · rw [h1] at e; cases e
    · exact h1 e.symm
theorem infoS : (Tryd.prog.info? 42).map (fun i => (i.zero, i.size, i.bytes)) = some (some (.slice none 0 0), 1, 24) := by kernel_rfl
section
variable {w w' : World} {base g : Nat} {vs : List Value} {zss : List (List Nat)}
theorem LLs.lt (h : LLs w base g vs zss) {i b : Nat} {u : Value} (h1 : vs[i]? = some u) (h2 : u.ownBlock = some b) : b < w.heap.size := by
  have hi : i < zss.length := by rw [← h.len]; exact (List.getElem?_eq_some_iff.1 h1).1
  exact ((h.own i u _ h1 (List.getElem?_eq_getElem hi)).lt b h2).2
theorem LLs.at2 (h : LLs w base g vs zss) {j : Nat} {zs : List Nat} (hz : zss[j]? = some zs) : ∃ (A : Option Addr) (c : Nat), vs[j]? = some (.slice A zs.length c) ∧ w.cell? ⟨g, j, none⟩ = some (.slice A zs.length c) ∧ w.ownsRow base 3 1 (.slice A zs.length c) zs.length (cellsI (toI zs)) := by
  obtain ⟨hj, hz⟩ := List.getElem?_eq_some_iff.1 hz
  obtain ⟨A, n, c, h1, h2, rfl, -, h3⟩ := h.at_ hj
  rw [hz] at h1 h2 h3
  exact ⟨A, c, h1, h2, h3⟩
end
/-- A list of n nils. -/
def nils (n : Nat) : List Value := List.replicate n (.slice none 0 0)
/-- What the loops keep in memory. -/
structure BfI (w : World) (P : Int) (A1 : Option Addr) (n1 c1 : Nat) (A2 : Option Addr) (n2 c2 : Nat) (vs : List Value) (zss : List (List Nat)) (wr : World) : Prop where
  l : LLs wr w.heap.size (w.heap.size + 1) vs zss
  f : Row wr w.heap.size 30 [.int .i64 P, .slice A1 n1 c1, .slice A2 n2 c2]
  b : Below w.heap.size w wr
/-- A row that none of the lists lies in. -/
def Dis (v : Value) (vs : List Value) : Prop := ∀ b, v.ownBlock = some b → ∀ (i : Nat) (u : Value), vs[i]? = some u → u.ownBlock ≠ some b
section
variable {P : Int} {A1 : Option Addr} {n1 c1 : Nat} {A2 : Option Addr} {n2 c2 : Nat} {l : List Ins} {w wr w2 : World} {vs : List Value} {zss : List (List Nat)}
theorem BfI.call (h : BfI w P A1 n1 c1 A2 n2 c2 vs zss wr) (hb : Below wr.heap.size wr w2) : BfI w P A1 n1 c1 A2 n2 c2 vs zss w2 := ⟨h.l.below hb, h.f.call hb, below_call h.b hb⟩
theorem BfI.apart (h : BfI w P A1 n1 c1 A2 n2 c2 vs zss wr) {v : Value} {n : Nat} {xs : List Value} (ho : w2.ownsRow wr.heap.size 3 1 v n xs) : Dis v vs := fun b hb i u hu e => by
  have h1 := (ho.lt b hb).1
  have h2 := h.l.lt hu e
  omega
theorem BfI.app {o : Obj} {j x n : Nat} {v v' y : Value} {zs : List Nat} {ys : List Value} (h : BfI w P A1 n1 c1 A2 n2 c2 vs zss wr) (hv : vs[j]? = some v) (hz : zss[j]? = some zs) (hx : x ≤ 1000000)
    (ho : w2.ownsRow w.heap.size 3 1 v' (zs.length + 1) (cellsI (toI zs) ++ [.int .i64 (x : Int)])) (hg : (wr.alloc o).grownBy w2 v.ownBlock) (hw : ∀ k, v'.ownBlock = some k → v.ownBlock = some k ∨ k = (wr.alloc o).heap.size)
    (hN : wr.ownsRow w.heap.size 3 1 y n ys) (hD : Dis y vs) :
    BfI w P A1 n1 c1 A2 n2 c2 (vs.set j v') (zss.set j (zs ++ [x])) (w2.setCell ⟨w.heap.size + 1, j, none⟩ v') ∧ (w2.setCell ⟨w.heap.size + 1, j, none⟩ v').ownsRow w.heap.size 3 1 y n ys ∧ Dis y (vs.set j v') ∧
      w2.frozen? ⟨w.heap.size + 1, j, none⟩ = false ∧ w2.cell? ⟨w.heap.size + 1, j, none⟩ = some v ∧ w2.ownsRow w.heap.size 3 1 y n ys := by
  have hvo := h.l.own j v zs hv hz
  have hR := h.l.row.append2 hvo fty_ne hg
  have hy : y.ownBlock = none ∨ y.ownBlock ≠ v.ownBlock := by
    cases hb : y.ownBlock with
    | none => exact .inl rfl
    | some b => exact .inr fun e => hD b hb j v hv e.symm
  have hN2 := (hN.alloc o).kept hg hy
  refine ⟨⟨h.l.app hv hz hx ho hg hw, (h.f.append2 hvo (by decide) hg).far (p := ⟨w.heap.size + 1, j, none⟩) (by simp) _, (below_append (h.b.alloc h.b.size o) (hvo.alloc o) (Nat.le_refl _) hg (Nat.le_trans h.b.size (by simp))).setCell (p := ⟨w.heap.size + 1, j, none⟩) (by simp) _⟩,
    hN2.kept (fgrown_set _ _ _ _) (fown_apart hN2 hR fty_ne), fun b hb i u hu e => ?_, hR.free j, hR.cell hv, hN2⟩
  rw [List.getElem?_set] at hu
  by_cases q : j = i
  · rw [if_pos q] at hu
    split at hu
    · injection hu with hu
      subst hu
      rcases hw b e with h1 | h1
      · exact hD b hb j v hv h1
      · have h2 := (hN.lt b hb).2
        have hs : (wr.alloc o).heap.size = wr.heap.size + 1 := by simp
        omega
    · cases hu
  · rw [if_neg q] at hu
    exact hD b hb i u hu e
end
end Go.Proofs.YtidlnecgfgnllaaDoor
end

section
/-
  A region whose order is open, by an invariant: if each operation that may come up keeps it, it holds at the end, whatever the order. No function of the program is named here.
-/
namespace Go.Proofs.YtidlnecgfgnllaaDoor
open Go.RowKit

theorem countP_lt {α : Type} {p q : α → Bool} : ∀ {xs : List α} {i : α}, (∀ x ∈ xs, q x = true → p x = true) → i ∈ xs → p i = true → q i = false → xs.countP q < xs.countP p := by
  intro xs
  induction xs with
  | nil => intro i _ hi; cases hi
  | cons y r ih =>
    intro i h hi hp hq
    have hle : r.countP q ≤ r.countP p := List.countP_mono_left fun x hx => h x (List.mem_cons_of_mem _ hx)
    rw [List.countP_cons, List.countP_cons]
    rcases List.mem_cons.1 hi with rfl | hi
    · rw [hp, hq]; simp; omega
    · have := ih (fun x hx => h x (List.mem_cons_of_mem _ hx)) hi hp hq
      have hy := h y List.mem_cons_self
      cases e : q y with
      | false => simp; split <;> omega
      | true => rw [hy e]; simp; omega

theorem getD_set (l : Array Bool) (i j : Nat) : (l.setIfInBounds i true).getD j true = (decide (i = j) || l.getD j true) := by
  simp only [Array.getD_eq_getD_getElem?, Array.getElem?_setIfInBounds]
  by_cases e : i = j
  · subst e
    by_cases h : i < l.size <;> simp [h]
  · simp [e]

/-- How many operations have not come up. -/
def leftOf (n : Nat) (l : Array Bool) : Nat := (List.range n).countP fun i => !l.getD i true
theorem leftOf_set {ops : Array Oper} {md : Region.Mode} {l : Array Bool} {i : Nat} (hi : i ∈ Region.ready md ops l) : leftOf ops.size (l.setIfInBounds i true) < leftOf ops.size l := by
  unfold Region.ready at hi
  obtain ⟨h1, h2⟩ := List.mem_filter.1 hi
  simp only [Bool.and_eq_true, Bool.not_eq_true'] at h2
  refine countP_lt (i := i) (fun x _ hx => ?_) h1 (by simp [h2.1]) (by simp)
  simp only [getD_set, Bool.not_or, Bool.and_eq_true] at hx
  exact hx.2
theorem ready_none {ops : Array Oper} {md : Region.Mode} {l : Array Bool} (h : leftOf ops.size l = 0) : Region.ready md ops l = [] := by
  unfold Region.ready
  refine List.filter_eq_nil_iff.2 fun x hx => ?_
  have := List.countP_eq_zero.1 h x hx
  simp only [Bool.not_eq_true, Bool.not_eq_false'] at this
  simp [this]

theorem wpAny_inv {P : Program} {Q : Exit → Act → World → Prop} {ops : Array Oper} (I : Array Bool → Act → World → Prop)
    (hs : ∀ l a w, I l a w → ∀ i ∈ Region.ready .any ops l, ∀ K : Act → World → Prop, (∀ a' w', I (l.setIfInBounds i true) a' w' → K a' w') → wpOp P ops Q i K a w)
    (he : ∀ l a w, I l a w → Region.ready .any ops l = [] → Q .normal a w) : ∀ (fuel : Nat) (l : Array Bool) (a : Act) (w : World), I l a w → leftOf ops.size l ≤ fuel → wpAny P .any ops Q fuel l a w := by
  intro fuel
  induction fuel with
  | zero => exact fun l a w h hl => ⟨ready_none (by omega), he l a w h (ready_none (by omega))⟩
  | succ fuel ih =>
    intro l a w h hl
    refine ⟨he l a w h, fun i hi => hs l a w h i hi _ fun a' w' h' => ih _ _ _ h' ?_⟩
    have := leftOf_set hi
    omega

theorem wp_region_inv {P : Program} {id : Nat} {Q : Exit → Act → World → Prop} {a : Act} {w : World} {ops : Array Oper} (hm : P.follows .mixedOrders = true) (I : Array Bool → Act → World → Prop)
    (h0 : I (Array.replicate ops.size false) a w.drew)
    (hs : ∀ l a w, I l a w → ∀ i ∈ Region.ready .any ops l, ∀ K : Act → World → Prop, (∀ a' w', I (l.setIfInBounds i true) a' w' → K a' w') → wpOp P ops Q i K a w)
    (he : ∀ l a w, I l a w → Region.ready .any ops l = [] → Q .normal a w) : (Code.region id ops true).wp P Q a w :=
  wp_region_any hm (wpAny_inv I hs he _ _ _ _ h0 (Nat.le_trans List.countP_le_length (by simp)))

/-- An operation without a guard. -/
theorem wpOp_plain {P : Program} {Q : Exit → Act → World → Prop} {ops : Array Oper} {i : Nat} {o : Oper} {K : Act → World → Prop} {a : Act} {w : World} (hi : ops[i]? = some o) (hg : o.guard = none) (h : o.wp P a w K Q) : wpOp P ops Q i K a w := by
  unfold wpOp
  simp only [hi]
  rw [if_pos (by simp [Region.wanted, hg])]
  exact .inl h
/-- What may come up has not come up, and what it waits for has. -/
theorem ready_of {ops : Array Oper} {l : Array Bool} {i : Nat} (hi : i ∈ Region.ready .any ops l) : l.getD i true = false ∧ ∃ o, ops[i]? = some o ∧ o.after.all (fun e => !Region.binds .any e || l.getD e.on false) = true := by
  unfold Region.ready at hi
  obtain ⟨_, h2⟩ := List.mem_filter.1 hi
  simp only [Bool.and_eq_true, Bool.not_eq_true'] at h2
  cases ho : ops[i]? with
  | none => rw [ho] at h2; simp at h2
  | some o => rw [ho] at h2; exact ⟨h2.1, o, rfl, by simpa using h2.2⟩
theorem ready_lt {ops : Array Oper} {l : Array Bool} {i : Nat} (hi : i ∈ Region.ready .any ops l) : i < ops.size := by
  unfold Region.ready at hi
  exact List.mem_range.1 (List.mem_filter.1 hi).1
theorem ready_mk {ops : Array Oper} {l : Array Bool} {i : Nat} {o : Oper} (ho : ops[i]? = some o) (h : l.getD i true = false) (ha : o.after.all (fun e => !Region.binds .any e || l.getD e.on false) = true) : i ∈ Region.ready .any ops l := by
  unfold Region.ready
  refine List.mem_filter.2 ⟨List.mem_range.2 (Array.getElem?_eq_some_iff.1 ho).1, ?_⟩
  rw [ho]
  simp only [Option.map_some, Option.getD_some, h, ha, Bool.not_false, Bool.and_self]
theorem ready_no {ops : Array Oper} {l : Array Bool} {i : Nat} {o : Oper} (hr : Region.ready .any ops l = []) (ho : ops[i]? = some o) (h : l.getD i true = false) (ha : o.after.all (fun e => !Region.binds .any e || l.getD e.on false) = true) : False := by
  have := ready_mk ho h ha
  rw [hr] at this
  cases this
end Go.Proofs.YtidlnecgfgnllaaDoor
end

section
/-
  A region whose order is open, and whose last operation waits for all the others: the others are walked once, in a class of worlds; then the last one. No function of the program is named here.
-/
namespace Go.Proofs.YtidlnecgfgnllaaDoor
open Go.RowKit

/-- No operation has a guard; each waits for earlier ones alone; each but the last is waited for by a later one. -/
def chainB (ops : Array Oper) (m : Nat) : Bool :=
  (List.range (m + 1)).all (fun i => match ops[i]? with
    | none => false
    | some o => o.guard.isNone && o.after.all (fun e => !Region.binds .any e || decide (e.on < i))) &&
  (List.range m).all (fun i => (List.range (m + 1)).any (fun j => decide (i < j) && (match ops[j]? with
    | none => false
    | some o => o.after.any (fun e => Region.binds .any e && decide (e.on = i)))))
section
variable {P : Program} {ops : Array Oper} {C : World → Prop} {m : Nat}
theorem chain_op (h : chainB ops m = true) {i : Nat} (hi : i ≤ m) : ∃ o, ops[i]? = some o ∧ o.guard = none ∧ ∀ e ∈ o.after, Region.binds .any e = true → e.on < i := by
  unfold chainB at h
  rw [Bool.and_eq_true] at h
  have h1 := List.all_eq_true.1 h.1 i (List.mem_range.2 (by omega))
  cases ho : ops[i]? with
  | none => rw [ho] at h1; cases h1
  | some o =>
    rw [ho] at h1
    simp only [Bool.and_eq_true, Option.isNone_iff_eq_none] at h1
    refine ⟨o, rfl, h1.1, fun e he hb => ?_⟩
    have h3 := h1.2
    rw [← Array.all_toList, List.all_eq_true] at h3
    have := h3 e (by simpa using he)
    rw [hb] at this
    simpa using this
theorem chain_use (h : chainB ops m = true) {i : Nat} (hi : i < m) : ∃ j o, i < j ∧ j ≤ m ∧ ops[j]? = some o ∧ ∃ e ∈ o.after, Region.binds .any e = true ∧ e.on = i := by
  unfold chainB at h
  rw [Bool.and_eq_true] at h
  have h1 := List.all_eq_true.1 h.2 i (List.mem_range.2 hi)
  obtain ⟨j, hj, h2⟩ := List.any_eq_true.1 h1
  rw [Bool.and_eq_true, decide_eq_true_eq] at h2
  cases ho : ops[j]? with
  | none => rw [ho] at h2; cases h2.2
  | some o =>
    rw [ho] at h2
    have h3 := h2.2
    dsimp only at h3
    rw [← Array.any_toList] at h3
    obtain ⟨e, he, h4⟩ := List.any_eq_true.1 h3
    rw [Bool.and_eq_true, decide_eq_true_eq] at h4
    exact ⟨j, o, h2.1, by have := List.mem_range.1 hj; omega, ho, e, by simpa using he, h4.1, h4.2⟩
/-- The lexical walk of the first operations. -/
theorem wpAnyQ_pre {md : Region.Mode} {Q : Act → Prop} (hs : Region.noSelect ops = true) : ∀ (l : List Oper) (k : Nat) (listed : Array Bool) (a : Act), (∀ j, j < l.length → l[j]? = ops[k + j]?) →
    Region.lexFrom md ops l.length k listed = true → wpQuiet P ops C Q l a → wpAnyQ P md ops C Q l.length listed a
  | [], _, _, _, _, hB, h => ⟨by simpa [Region.lexFrom] using hB, h⟩
  | o :: l, k, listed, a, hl, hB, h => by
    have h0 : ops[k]? = some o := by simpa using (hl 0 (by simp)).symm
    simp only [List.length_cons, Region.lexFrom, Bool.and_eq_true] at hB
    obtain ⟨⟨hr, hf⟩, hB'⟩ := hB
    have hst : qOp P ops C k (wpQuiet P ops C Q l) a := by unfold qOp; simp only [h0]; exact h
    obtain ⟨v, hy, hK⟩ := yieldsIn_of_qOp h0 hst
    exact wpAnyQ_first h0 (Region.noSelect_spec hs) l.length listed a (Region.free_spec h0 hf) (by simpa using hr) hy
      (wpAnyQ_pre hs l (k + 1) _ _ (fun j hj => by have := hl (j + 1) (by simp; omega); simpa [Nat.add_assoc, Nat.add_comm 1 j] using this) hB' hK)
/-- What has come up waits for nothing. -/
def ClosedL (ops : Array Oper) (listed : Array Bool) : Prop := ∀ i o, ops[i]? = some o → listed.getD i false = true → ∀ e ∈ o.after, Region.binds .any e = true → listed.getD e.on false = true
theorem getD_true {l : Array Bool} {i : Nat} (hi : i < l.size) (h : l.getD i true = true) : l.getD i false = true := by
  simp [Array.getD_eq_getD_getElem?, hi] at h ⊢
  exact h
theorem all_listed (h : chainB ops m = true) {listed : Array Bool} (hc : ClosedL ops listed) {o : Oper} (ho : ops[m]? = some o) (hr : ∀ e ∈ o.after, Region.binds .any e = true → listed.getD e.on false = true) : ∀ (n i : Nat), m - i ≤ n → i < m → listed.getD i false = true := by
  intro n
  induction n with
  | zero => intro i h1 h2; omega
  | succ n ih =>
    intro i h1 h2
    obtain ⟨j, oj, hij, hjm, hoj, e, he, hb, hei⟩ := chain_use h h2
    rw [← hei]
    by_cases hj : j = m
    · subst hj
      rw [ho] at hoj
      injection hoj with hoj
      subst hoj
      exact hr e he hb
    · exact hc j oj hoj (ih j (by omega) (by omega)) e he hb
theorem none_ready (h : chainB ops m = true) {listed : Array Bool} (hsz : listed.size = ops.size) (hm : ops.size = m + 1) (hr : Region.ready .any ops listed = []) : ∀ (n i : Nat), i < n → i ≤ m → listed.getD i false = true := by
  intro n
  induction n with
  | zero => intro i h1 _; omega
  | succ n ih =>
    intro i h1 h2
    by_cases hl : listed.getD i true = true
    · exact getD_true (by omega) hl
    · obtain ⟨o, ho, _, ha⟩ := chain_op h h2
      exfalso
      have : i ∈ Region.ready .any ops listed := mem_ready.2 ⟨by simpa using hl, o, ho, fun e he hb => ih e.on (by have := ha e he hb; omega) (by have := ha e he hb; omega)⟩
      rw [hr] at this
      cases this
theorem getD_set_f {l : Array Bool} {i j : Nat} (h : i ≠ j) (d : Bool) : (l.setIfInBounds i true).getD j d = l.getD j d := by
  simp [Array.getD_eq_getD_getElem?, Array.getElem?_setIfInBounds, h]
theorem wp_region_last {id : Nat} {Q : Exit → Act → World → Prop} {a : Act} {w : World} {o : Oper} (m : Nat) (hm : P.follows .mixedOrders = true) (hn : ops.size = m + 1) (ho : ops[m]? = some o) (hs : Region.noSelect ops = true)
    (hB : Region.lexFrom .any ops m 0 ((Array.replicate ops.size false).setIfInBounds m true) = true) (hch : chainB ops m = true) (hC : C w.drew)
    (h : wpQuiet P ops C (fun a' => ∀ w', C w' → wpList P #[o] Q [o] a' w') (ops.toList.take m) a) : (Code.region id ops true).wp P Q a w := by
  have hlen : (ops.toList.take m).length = m := by rw [List.length_take, Array.length_toList]; omega
  have hpre := wpAnyQ_pre (md := .any) hs (ops.toList.take m) 0 ((Array.replicate ops.size false).setIfInBounds m true) a (fun j hj => by rw [List.getElem?_take, if_pos (by omega), Nat.zero_add]; simp) (by rw [hlen]; exact hB) h
  obtain ⟨_, _, hgm, _⟩ := (⟨o, ho, (by obtain ⟨o', h1, h2, _⟩ := chain_op hch (Nat.le_refl m); rw [ho] at h1; injection h1 with h1; rw [h1]; exact h2 : o.guard = none), trivial⟩ : ∃ o', ops[m]? = some o' ∧ o.guard = none ∧ True)
  let K : Act → Prop := fun a' => ∀ w', C w' → wpList P #[o] Q [o] a' w'
  refine wp_region_inv hm (fun listed a w => listed.size = ops.size ∧ ((listed.getD m true = false ∧ ClosedL ops listed ∧ C w ∧ ∃ fuel, wpAnyQ P .any ops C K fuel (listed.setIfInBounds m true) a) ∨ (Region.ready .any ops listed = [] ∧ Q .normal a w))) ?_ ?_ ?_
  · refine ⟨by simp, .inl ⟨?_, ?_, hC, _, hpre⟩⟩
    · simp [Array.getD_eq_getD_getElem?, hn]
    · intro i o' _ hl
      exfalso
      simp [Array.getD_eq_getD_getElem?] at hl
      by_cases hi : i < ops.size <;> simp [hi, Array.getElem?_replicate] at hl
  · rintro l a w ⟨hsz, ⟨hlm, hcl, hCw, fuel, hq⟩ | ⟨hr, _⟩⟩ i hi K2 hK2
    · by_cases him : i = m
      · subst him
        obtain ⟨_, o', ho', hall⟩ := mem_ready.1 hi
        rw [ho] at ho'
        injection ho' with ho'
        subst ho'
        have hal : ∀ j, j < i → l.getD j false = true := fun j hj => all_listed hch hcl ho hall _ j (Nat.le_refl _) hj
        have hnr : Region.ready .any ops (l.setIfInBounds i true) = [] := by
          refine List.eq_nil_iff_forall_not_mem.2 fun j hj => ?_
          obtain ⟨hj1, oj, hoj, _⟩ := mem_ready.1 hj
          have hjn : j < ops.size := (Array.getElem?_eq_some_iff.1 hoj).1
          by_cases hji : i = j
          · subst hji
            simp [Array.getD_eq_getD_getElem?, hsz, hjn] at hj1
          · rw [getD_set_f hji] at hj1
            have := hal j (by omega)
            simp [Array.getD_eq_getD_getElem?, hsz, hjn] at hj1 this
            rw [this] at hj1
            cases hj1
        have hKa : K a := by
          cases fuel with
          | zero => exact hq.2
          | succ fuel => exact hq.1 hnr
        have h1 := hKa w hCw
        unfold wpList at h1
        unfold wpOp
        simp only [ho]
        have hw : ∀ x, Region.wanted o x = true := fun x => by simp [Region.wanted, hgm]
        rw [if_pos (hw _)] at h1 ⊢
        rcases h1 with h1 | h1
        · exact .inl (Oper.wp_mono (fun a' w' h2 => hK2 a' w' ⟨by simpa using hsz, .inr ⟨hnr, h2⟩⟩) h1)
        · exact .inr h1
      · have hi2 := ready_mono hi him
        cases fuel with
        | zero => rw [hq.1] at hi2; cases hi2
        | succ fuel =>
          have h1 := hq.2 i hi2
          refine wpOp_of_qOp hCw (fun a' w' hC' h2 => hK2 a' w' ⟨by simpa using hsz, .inl ⟨?_, ?_, hC', fuel, ?_⟩⟩) h1
          · rw [getD_set_f him]; exact hlm
          · intro j oj hoj hl e he hb
            obtain ⟨_, oi, hoi, hall⟩ := mem_ready.1 hi
            have key : l.getD e.on false = true := by
              by_cases hij : i = j
              · subst hij
                rw [hoi] at hoj
                injection hoj with hoj
                subst hoj
                exact hall e he hb
              · rw [getD_set_f hij] at hl
                exact hcl j oj hoj hl e he hb
            exact getD_set_true key
          · rw [Array.setIfInBounds_comm _ _ him]; exact h2
    · rw [hr] at hi; cases hi
  · rintro l a w ⟨hsz, ⟨hlm, hcl, hCw, fuel, hq⟩ | ⟨_, h2⟩⟩ hr
    · have := none_ready hch hsz hn hr (m + 1) m (by omega) (Nat.le_refl _)
      simp [Array.getD_eq_getD_getElem?, hsz, hn] at hlm this
      rw [hlm] at this
      cases this
    · exact h2
end
end Go.Proofs.YtidlnecgfgnllaaDoor
end

section
/-
  A region whose order is open, and whose last operation waits for all the others (a store into a cell that the region loads): the others are walked under a condition on the worlds; then the last one, behind which the condition need not hold. No function of the program is named here.
-/
namespace Go.Proofs.YtidlnecgfgnllaaDoor
open Go.RowKit

section
variable {P : Program} {ops : Array Oper}
/-- Where the others have come up, the last one comes. -/
def LastQ (P : Program) (o : Oper) (Q : Exit → Act → World → Prop) : Exit → Act → World → Prop
  | .normal, a, w => wpList P #[o] Q [o] a w
  | .ret, a, w => Q .ret a w
  | .exit l, a, w => Q (.exit l) a w
  | .goto l, a, w => Q (.goto l) a w
  | .panic c, a, w => Q (.panic c) a w
  | .outgrown, a, w => Q .outgrown a w
theorem LastQ.panic {o : Oper} {Q : Exit → Act → World → Prop} {c} {a : Act} {w : World} (h : LastQ P o Q (.panic c) a w) : Q (.panic c) a w := h
theorem LastQ.outs {o : Oper} {Q : Exit → Act → World → Prop} (h : LetsOut (LastQ P o Q)) : LetsOut Q := h
theorem oper_last {o o' : Oper} {Q : Exit → Act → World → Prop} {a : Act} {w : World} {K : Act → World → Prop} (h : o'.wp P a w K (LastQ P o Q)) : o'.wp P a w K Q := by
  unfold Oper.wp at h ⊢
  generalize (execOp a.eval o').run P w = r at *
  cases r with
  | ok n w' =>
    cases n <;> simp only [Oper.upon] at h ⊢
    case value u => exact h
    case skip => exact h
    case defer d => exact h
    case enter f args =>
      refine Calls.mono h fun e w'' he => ?_
      cases e with
      | returned u => exact he
      | panicked c => exact he
      | outgrown => exact LastQ.outs he
    case row row args => exact h
  | halt x w' =>
    cases x <;> simp only [Oper.upon] at h ⊢
    case panic u => exact h
theorem wpOp_last {o : Oper} {Q : Exit → Act → World → Prop} {a : Act} {w : World} {i : Nat} {K K' : Act → World → Prop} (h : wpOp P ops (LastQ P o Q) i K a w) (hK : ∀ a w, K a w → K' a w) : wpOp P ops Q i K' a w := by
  refine wpOp_mono hK ?_
  unfold wpOp at h ⊢
  cases ho : ops[i]? with
  | none => rw [ho] at h; exact h
  | some o' =>
    simp only [ho] at h ⊢
    split
    · rename_i hw
      rw [if_pos hw] at h
      exact h.imp oper_last (fun h => ⟨h.1, LastQ.outs h.2⟩)
    · rename_i hw
      rw [if_neg hw] at h
      exact h
theorem wp_region_lastH {id : Nat} {Q : Exit → Act → World → Prop} {a : Act} {w : World} {o : Oper} {S : World → Prop} (m : Nat) (hm : P.follows .mixedOrders = true) (hn : ops.size = m + 1) (ho : ops[m]? = some o) (hch : chainB ops m = true)
    (h : wpAnyH P .any ops (LastQ P o Q) S m ((Array.replicate ops.size false).setIfInBounds m true) a w.drew) : (Code.region id ops true).wp P Q a w := by
  have hpre := wpAny_of_held _ _ _ _ h
  obtain ⟨_, _, hgm, _⟩ := (⟨o, ho, (by obtain ⟨o', h1, h2, _⟩ := chain_op hch (Nat.le_refl m); rw [ho] at h1; injection h1 with h1; rw [h1]; exact h2 : o.guard = none), trivial⟩ : ∃ o', ops[m]? = some o' ∧ o.guard = none ∧ True)
  refine wp_region_inv hm (fun listed a w => listed.size = ops.size ∧ ((listed.getD m true = false ∧ ClosedL ops listed ∧ ∃ fuel, wpAny P .any ops (LastQ P o Q) fuel (listed.setIfInBounds m true) a w) ∨ (Region.ready .any ops listed = [] ∧ Q .normal a w))) ?_ ?_ ?_
  · refine ⟨by simp, .inl ⟨?_, ?_, _, hpre⟩⟩
    · simp [Array.getD_eq_getD_getElem?, hn]
    · intro i o' _ hl
      exfalso
      simp [Array.getD_eq_getD_getElem?] at hl
      by_cases hi : i < ops.size <;> simp [hi, Array.getElem?_replicate] at hl
  · rintro l a w ⟨hsz, ⟨hlm, hcl, fuel, hq⟩ | ⟨hr, _⟩⟩ i hi K2 hK2
    · by_cases him : i = m
      · subst him
        obtain ⟨_, o', ho', hall⟩ := mem_ready.1 hi
        rw [ho] at ho'
        injection ho' with ho'
        subst ho'
        have hal : ∀ j, j < i → l.getD j false = true := fun j hj => all_listed hch hcl ho hall _ j (Nat.le_refl _) hj
        have hnr : Region.ready .any ops (l.setIfInBounds i true) = [] := by
          refine List.eq_nil_iff_forall_not_mem.2 fun j hj => ?_
          obtain ⟨hj1, oj, hoj, _⟩ := mem_ready.1 hj
          have hjn : j < ops.size := (Array.getElem?_eq_some_iff.1 hoj).1
          by_cases hji : i = j
          · subst hji
            simp [Array.getD_eq_getD_getElem?, hsz, hjn] at hj1
          · rw [getD_set_f hji] at hj1
            have := hal j (by omega)
            simp [Array.getD_eq_getD_getElem?, hsz, hjn] at hj1 this
            rw [this] at hj1
            cases hj1
        have h1 : wpList P #[o] Q [o] a w := by
          cases fuel with
          | zero => exact hq.2
          | succ fuel => exact hq.1 hnr
        unfold wpList at h1
        unfold wpOp
        simp only [ho]
        have hw : ∀ x, Region.wanted o x = true := fun x => by simp [Region.wanted, hgm]
        rw [if_pos (hw _)] at h1 ⊢
        rcases h1 with h1 | h1
        · exact .inl (Oper.wp_mono (fun a' w' h2 => hK2 a' w' ⟨by simpa using hsz, .inr ⟨hnr, h2⟩⟩) h1)
        · exact .inr h1
      · have hi2 := ready_mono hi him
        cases fuel with
        | zero => rw [hq.1] at hi2; cases hi2
        | succ fuel =>
          have h1 := hq.2 i hi2
          refine wpOp_last h1 (fun a' w' h2 => hK2 a' w' ⟨by simpa using hsz, .inl ⟨?_, ?_, fuel, ?_⟩⟩)
          · rw [getD_set_f him]; exact hlm
          · intro j oj hoj hl e he hb
            obtain ⟨_, oi, hoi, hall⟩ := mem_ready.1 hi
            have key : l.getD e.on false = true := by
              by_cases hij : i = j
              · subst hij
                rw [hoi] at hoj
                injection hoj with hoj
                subst hoj
                exact hall e he hb
              · rw [getD_set_f hij] at hl
                exact hcl j oj hoj hl e he hb
            exact getD_set_true key
          · rw [Array.setIfInBounds_comm _ _ him]; exact h2
    · rw [hr] at hi; cases hi
  · rintro l a w ⟨hsz, ⟨hlm, hcl, fuel, hq⟩ | ⟨_, h2⟩⟩ hr
    · have := none_ready hch hsz hn hr (m + 1) m (by omega) (Nat.le_refl _)
      simp [Array.getD_eq_getD_getElem?, hsz, hn] at hlm this
      rw [hlm] at this
      cases this
    · exact h2
theorem tk_0 {a0 : Oper} {l : List Oper} : (a0 :: l).toArray[0]? = some a0 := rfl
theorem tk_1 {a0 a1 : Oper} {l : List Oper} : (a0 :: a1 :: l).toArray[1]? = some a1 := rfl
theorem tk_2 {a0 a1 a2 : Oper} {l : List Oper} : (a0 :: a1 :: a2 :: l).toArray[2]? = some a2 := rfl
theorem tk_3 {a0 a1 a2 a3 : Oper} {l : List Oper} : (a0 :: a1 :: a2 :: a3 :: l).toArray[3]? = some a3 := rfl
theorem tk_4 {a0 a1 a2 a3 a4 : Oper} {l : List Oper} : (a0 :: a1 :: a2 :: a3 :: a4 :: l).toArray[4]? = some a4 := rfl
theorem tk_5 {a0 a1 a2 a3 a4 a5 : Oper} {l : List Oper} : (a0 :: a1 :: a2 :: a3 :: a4 :: a5 :: l).toArray[5]? = some a5 := rfl
theorem tk_6 {a0 a1 a2 a3 a4 a5 a6 : Oper} {l : List Oper} : (a0 :: a1 :: a2 :: a3 :: a4 :: a5 :: a6 :: l).toArray[6]? = some a6 := rfl
theorem tk_7 {a0 a1 a2 a3 a4 a5 a6 a7 : Oper} {l : List Oper} : (a0 :: a1 :: a2 :: a3 :: a4 :: a5 :: a6 :: a7 :: l).toArray[7]? = some a7 := rfl
theorem tk_8 {a0 a1 a2 a3 a4 a5 a6 a7 a8 : Oper} {l : List Oper} : (a0 :: a1 :: a2 :: a3 :: a4 :: a5 :: a6 :: a7 :: a8 :: l).toArray[8]? = some a8 := rfl
theorem tk_9 {a0 a1 a2 a3 a4 a5 a6 a7 a8 a9 : Oper} {l : List Oper} : (a0 :: a1 :: a2 :: a3 :: a4 :: a5 :: a6 :: a7 :: a8 :: a9 :: l).toArray[9]? = some a9 := rfl
theorem tk_10 {a0 a1 a2 a3 a4 a5 a6 a7 a8 a9 a10 : Oper} {l : List Oper} : (a0 :: a1 :: a2 :: a3 :: a4 :: a5 :: a6 :: a7 :: a8 :: a9 :: a10 :: l).toArray[10]? = some a10 := rfl
theorem tk_11 {a0 a1 a2 a3 a4 a5 a6 a7 a8 a9 a10 a11 : Oper} {l : List Oper} : (a0 :: a1 :: a2 :: a3 :: a4 :: a5 :: a6 :: a7 :: a8 :: a9 :: a10 :: a11 :: l).toArray[11]? = some a11 := rfl
theorem tk_12 {a0 a1 a2 a3 a4 a5 a6 a7 a8 a9 a10 a11 a12 : Oper} {l : List Oper} : (a0 :: a1 :: a2 :: a3 :: a4 :: a5 :: a6 :: a7 :: a8 :: a9 :: a10 :: a11 :: a12 :: l).toArray[12]? = some a12 := rfl
theorem tk_13 {a0 a1 a2 a3 a4 a5 a6 a7 a8 a9 a10 a11 a12 a13 : Oper} {l : List Oper} : (a0 :: a1 :: a2 :: a3 :: a4 :: a5 :: a6 :: a7 :: a8 :: a9 :: a10 :: a11 :: a12 :: a13 :: l).toArray[13]? = some a13 := rfl
theorem tk_14 {a0 a1 a2 a3 a4 a5 a6 a7 a8 a9 a10 a11 a12 a13 a14 : Oper} {l : List Oper} : (a0 :: a1 :: a2 :: a3 :: a4 :: a5 :: a6 :: a7 :: a8 :: a9 :: a10 :: a11 :: a12 :: a13 :: a14 :: l).toArray[14]? = some a14 := rfl
theorem tk_15 {a0 a1 a2 a3 a4 a5 a6 a7 a8 a9 a10 a11 a12 a13 a14 a15 : Oper} {l : List Oper} : (a0 :: a1 :: a2 :: a3 :: a4 :: a5 :: a6 :: a7 :: a8 :: a9 :: a10 :: a11 :: a12 :: a13 :: a14 :: a15 :: l).toArray[15]? = some a15 := rfl
theorem tk_16 {a0 a1 a2 a3 a4 a5 a6 a7 a8 a9 a10 a11 a12 a13 a14 a15 a16 : Oper} {l : List Oper} : (a0 :: a1 :: a2 :: a3 :: a4 :: a5 :: a6 :: a7 :: a8 :: a9 :: a10 :: a11 :: a12 :: a13 :: a14 :: a15 :: a16 :: l).toArray[16]? = some a16 := rfl
theorem tk_17 {a0 a1 a2 a3 a4 a5 a6 a7 a8 a9 a10 a11 a12 a13 a14 a15 a16 a17 : Oper} {l : List Oper} : (a0 :: a1 :: a2 :: a3 :: a4 :: a5 :: a6 :: a7 :: a8 :: a9 :: a10 :: a11 :: a12 :: a13 :: a14 :: a15 :: a16 :: a17 :: l).toArray[17]? = some a17 := rfl
theorem tk_18 {a0 a1 a2 a3 a4 a5 a6 a7 a8 a9 a10 a11 a12 a13 a14 a15 a16 a17 a18 : Oper} {l : List Oper} : (a0 :: a1 :: a2 :: a3 :: a4 :: a5 :: a6 :: a7 :: a8 :: a9 :: a10 :: a11 :: a12 :: a13 :: a14 :: a15 :: a16 :: a17 :: a18 :: l).toArray[18]? = some a18 := rfl
theorem tk_19 {a0 a1 a2 a3 a4 a5 a6 a7 a8 a9 a10 a11 a12 a13 a14 a15 a16 a17 a18 a19 : Oper} {l : List Oper} : (a0 :: a1 :: a2 :: a3 :: a4 :: a5 :: a6 :: a7 :: a8 :: a9 :: a10 :: a11 :: a12 :: a13 :: a14 :: a15 :: a16 :: a17 :: a18 :: a19 :: l).toArray[19]? = some a19 := rfl
theorem tk_20 {a0 a1 a2 a3 a4 a5 a6 a7 a8 a9 a10 a11 a12 a13 a14 a15 a16 a17 a18 a19 a20 : Oper} {l : List Oper} : (a0 :: a1 :: a2 :: a3 :: a4 :: a5 :: a6 :: a7 :: a8 :: a9 :: a10 :: a11 :: a12 :: a13 :: a14 :: a15 :: a16 :: a17 :: a18 :: a19 :: a20 :: l).toArray[20]? = some a20 := rfl
theorem tk_21 {a0 a1 a2 a3 a4 a5 a6 a7 a8 a9 a10 a11 a12 a13 a14 a15 a16 a17 a18 a19 a20 a21 : Oper} {l : List Oper} : (a0 :: a1 :: a2 :: a3 :: a4 :: a5 :: a6 :: a7 :: a8 :: a9 :: a10 :: a11 :: a12 :: a13 :: a14 :: a15 :: a16 :: a17 :: a18 :: a19 :: a20 :: a21 :: l).toArray[21]? = some a21 := rfl
theorem tk_22 {a0 a1 a2 a3 a4 a5 a6 a7 a8 a9 a10 a11 a12 a13 a14 a15 a16 a17 a18 a19 a20 a21 a22 : Oper} {l : List Oper} : (a0 :: a1 :: a2 :: a3 :: a4 :: a5 :: a6 :: a7 :: a8 :: a9 :: a10 :: a11 :: a12 :: a13 :: a14 :: a15 :: a16 :: a17 :: a18 :: a19 :: a20 :: a21 :: a22 :: l).toArray[22]? = some a22 := rfl
theorem tk_23 {a0 a1 a2 a3 a4 a5 a6 a7 a8 a9 a10 a11 a12 a13 a14 a15 a16 a17 a18 a19 a20 a21 a22 a23 : Oper} {l : List Oper} : (a0 :: a1 :: a2 :: a3 :: a4 :: a5 :: a6 :: a7 :: a8 :: a9 :: a10 :: a11 :: a12 :: a13 :: a14 :: a15 :: a16 :: a17 :: a18 :: a19 :: a20 :: a21 :: a22 :: a23 :: l).toArray[23]? = some a23 := rfl
theorem tk_24 {a0 a1 a2 a3 a4 a5 a6 a7 a8 a9 a10 a11 a12 a13 a14 a15 a16 a17 a18 a19 a20 a21 a22 a23 a24 : Oper} {l : List Oper} : (a0 :: a1 :: a2 :: a3 :: a4 :: a5 :: a6 :: a7 :: a8 :: a9 :: a10 :: a11 :: a12 :: a13 :: a14 :: a15 :: a16 :: a17 :: a18 :: a19 :: a20 :: a21 :: a22 :: a23 :: a24 :: l).toArray[24]? = some a24 := rfl
theorem tk_25 {a0 a1 a2 a3 a4 a5 a6 a7 a8 a9 a10 a11 a12 a13 a14 a15 a16 a17 a18 a19 a20 a21 a22 a23 a24 a25 : Oper} {l : List Oper} : (a0 :: a1 :: a2 :: a3 :: a4 :: a5 :: a6 :: a7 :: a8 :: a9 :: a10 :: a11 :: a12 :: a13 :: a14 :: a15 :: a16 :: a17 :: a18 :: a19 :: a20 :: a21 :: a22 :: a23 :: a24 :: a25 :: l).toArray[25]? = some a25 := rfl
theorem tk_26 {a0 a1 a2 a3 a4 a5 a6 a7 a8 a9 a10 a11 a12 a13 a14 a15 a16 a17 a18 a19 a20 a21 a22 a23 a24 a25 a26 : Oper} {l : List Oper} : (a0 :: a1 :: a2 :: a3 :: a4 :: a5 :: a6 :: a7 :: a8 :: a9 :: a10 :: a11 :: a12 :: a13 :: a14 :: a15 :: a16 :: a17 :: a18 :: a19 :: a20 :: a21 :: a22 :: a23 :: a24 :: a25 :: a26 :: l).toArray[26]? = some a26 := rfl
theorem tk_27 {a0 a1 a2 a3 a4 a5 a6 a7 a8 a9 a10 a11 a12 a13 a14 a15 a16 a17 a18 a19 a20 a21 a22 a23 a24 a25 a26 a27 : Oper} {l : List Oper} : (a0 :: a1 :: a2 :: a3 :: a4 :: a5 :: a6 :: a7 :: a8 :: a9 :: a10 :: a11 :: a12 :: a13 :: a14 :: a15 :: a16 :: a17 :: a18 :: a19 :: a20 :: a21 :: a22 :: a23 :: a24 :: a25 :: a26 :: a27 :: l).toArray[27]? = some a27 := rfl
theorem tk_28 {a0 a1 a2 a3 a4 a5 a6 a7 a8 a9 a10 a11 a12 a13 a14 a15 a16 a17 a18 a19 a20 a21 a22 a23 a24 a25 a26 a27 a28 : Oper} {l : List Oper} : (a0 :: a1 :: a2 :: a3 :: a4 :: a5 :: a6 :: a7 :: a8 :: a9 :: a10 :: a11 :: a12 :: a13 :: a14 :: a15 :: a16 :: a17 :: a18 :: a19 :: a20 :: a21 :: a22 :: a23 :: a24 :: a25 :: a26 :: a27 :: a28 :: l).toArray[28]? = some a28 := rfl
theorem tk_29 {a0 a1 a2 a3 a4 a5 a6 a7 a8 a9 a10 a11 a12 a13 a14 a15 a16 a17 a18 a19 a20 a21 a22 a23 a24 a25 a26 a27 a28 a29 : Oper} {l : List Oper} : (a0 :: a1 :: a2 :: a3 :: a4 :: a5 :: a6 :: a7 :: a8 :: a9 :: a10 :: a11 :: a12 :: a13 :: a14 :: a15 :: a16 :: a17 :: a18 :: a19 :: a20 :: a21 :: a22 :: a23 :: a24 :: a25 :: a26 :: a27 :: a28 :: a29 :: l).toArray[29]? = some a29 := rfl
end
end Go.Proofs.YtidlnecgfgnllaaDoor
end
