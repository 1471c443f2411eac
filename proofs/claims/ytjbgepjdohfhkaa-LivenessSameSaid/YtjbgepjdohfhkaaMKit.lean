import Derived.Test.YtjbgepjdohfhkaaRows
import Derived.WalkKit
import Derived.ProofKit
import Derived.Deep.Draws
import Derived.Laws.CopyOwn
import Derived.Laws.AppendOwnNone
import Derived.Laws.Rows
import Derived.Deep.QuietTactic
import Derived.BigQuiet
import Derived.Laws.Bits64b
import Derived.OwnWalk
set_option linter.unusedVariables false
set_option linter.unusedSimpArgs false
section
/-
  Words for memory that the walks of this seat use: 'Sees': a slice's address yields these cells, below a given block. No condition; nothing here names the program's functions.
-/
namespace Go.Proofs.Ytjbgepjdohfhkaa
open Go.RowKit

/-- At the address A stand the cells xs, one place each, in a block below B. (An empty list asks nothing of A: nil is let in.) -/
def Sees (w : World) (B : Nat) (A : Option Addr) (xs : List Value) : Prop :=
  ∀ (k : Nat) (u : Value), xs[k]? = some u → ∃ b off, A = some ⟨b, off, none⟩ ∧ b < B ∧ w.cell? ⟨b, off + k, none⟩ = some u

section
variable {w w' : World} {B B' : Nat} {A : Option Addr} {xs ys : List Value}

theorem Sees.nil_ (w : World) (B : Nat) (A : Option Addr) : Sees w B A [] := fun k u h => by simp at h

theorem Sees.keep (h : Sees w B A xs) (hk : ∀ p : Addr, p.block < B → w'.cell? p = w.cell? p) : Sees w' B A xs := fun k u hu => by
  obtain ⟨b, off, e, hb, hc⟩ := h k u hu
  exact ⟨b, off, e, hb, (hk _ hb).trans hc⟩

theorem Sees.more (h : Sees w B A xs) (hB : B ≤ B') : Sees w B' A xs := fun k u hu => by
  obtain ⟨b, off, e, hb, hc⟩ := h k u hu
  exact ⟨b, off, e, by omega, hc⟩

theorem Sees.below (h : Sees w B A xs) (hb : Below B w w') : Sees w' B A xs := h.keep fun _ hp => hb.cell hp
theorem Sees.draws (h : Sees w B A xs) (n : Nat) : Sees (w.drewN n) B A xs := h
theorem Sees.draw (h : Sees w B A xs) : Sees w.drew B A xs := h
theorem Sees.undraws {n : Nat} (h : Sees (w.drewN n) B A xs) : Sees w B A xs := h
theorem Sees.alloc (h : Sees w B A xs) (hB : B ≤ w.heap.size) (o : Obj) : Sees (w.alloc o) B A xs := h.keep fun p hp => World.cell?_alloc_lt w o p (by omega)

/-- A list that begins as this one does. -/
theorem Sees.part (h : Sees w B A xs) (hp : ∀ (k : Nat) (u : Value), ys[k]? = some u → xs[k]? = some u) : Sees w B A ys := fun k u hu => h k u (hp k u hu)
theorem Sees.take (h : Sees w B A xs) (n : Nat) : Sees w B A (xs.take n) := h.part fun k u hu => by
  rw [List.getElem?_take] at hu
  split at hu <;> simp_all
theorem Sees.left (h : Sees w B A (xs ++ ys)) : Sees w B A xs := h.part fun k u hu => by
  have hk : k < xs.length := by
    rcases Nat.lt_or_ge k xs.length with h1 | h1
    · exact h1
    · rw [List.getElem?_eq_none h1] at hu; simp at hu
  rw [List.getElem?_append_left hk]; exact hu

/-- From place k on: 's[k:]' with a place left behind it. -/
theorem Sees.drop (h : Sees w B A xs) (k : Nat) : Sees w B (A.map (·.add k)) (xs.drop k) := fun j u hu => by
  rw [List.getElem?_drop] at hu
  obtain ⟨b, off, e, hb, hc⟩ := h _ u hu
  refine ⟨b, off + k, ?_, hb, ?_⟩
  · subst e
    simp only [Option.map_some, Addr.add]
    split <;> simp_all
  · rw [Nat.add_assoc]; exact hc

/-- A row of the call's own. -/
theorem Sees.own {base : Nat} {e : TypeId} {n c : Nat} (h : w.ownsRow base e 1 (.slice A n c) n xs) : Sees w w.heap.size A xs := fun k u hu => by
  have hl := h.1
  have hk : k < xs.length := by
    rcases Nat.lt_or_ge k xs.length with h1 | h1
    · exact h1
    · rw [List.getElem?_eq_none h1] at hu; simp at hu
  rcases h.2 with ⟨he, h0⟩ | ⟨g, cap, cur, he, hg, hh, _⟩
  · omega
  · have hA : A = some ⟨g, 0, none⟩ := by injection he
    subst hA
    have hlt : g < w.heap.size := by
      rcases Nat.lt_or_ge g w.heap.size with h1 | h1
      · exact h1
      · rw [Array.getElem?_eq_none h1] at hh; simp at hh
    refine ⟨g, 0, rfl, hlt, ?_⟩
    have := h.cells (g := g) rfl k u hu
    rw [Nat.zero_add]
    simpa [Addr.add] using (by
      have e2 : (⟨g, 0, none⟩ : Addr).add k = ⟨g, k, none⟩ := by
        unfold Addr.add
        split <;> simp_all
      rw [← e2]; exact this)
end

/-- Bytes as cells. -/
def cellsU8 (zs : List Int) : List Value := zs.map (Value.int .u8)

theorem get_u8 {zs : List Int} {k : Nat} (h : k < zs.length) : (cellsU8 zs)[k]? = some (.int .u8 (zs.getD k 0)) := by
  simp [cellsU8, List.getElem?_map, List.getElem?_eq_getElem h, List.getD_eq_getElem?_getD]

/-- The byte at place k, and where it stands. -/
theorem byte_at {w : World} {B : Nat} {A : Option Addr} {zs : List Int} {k : Nat} (h : Sees w B A (cellsU8 zs)) (hk : k < zs.length) (hz : ∀ z ∈ zs, 0 ≤ z ∧ z ≤ 255) :
    ∃ b off z, A = some ⟨b, off, none⟩ ∧ b < B ∧ w.cell? ⟨b, off + k, none⟩ = some (.int .u8 z) ∧ 0 ≤ z ∧ z ≤ 255 ∧ Hid (zs[k]? = some z) := by
  obtain ⟨b, off, e, hb, hc⟩ := h k (.int .u8 zs[k]) (by simp [cellsU8, List.getElem?_map, List.getElem?_eq_getElem hk])
  have hz' := hz zs[k] (List.getElem_mem hk)
  exact ⟨b, off, zs[k], e, hb, hc, hz'.1, hz'.2, List.getElem?_eq_getElem hk⟩
theorem take_more {zs : List Int} {k : Nat} {z : Int} (h : zs[k]? = some z) : zs.take (k + 1) = zs.take k ++ [z] := by
  rw [List.take_add_one, h]; rfl

/-- A fact kept from the walk. -/
theorem hide {p : Prop} (h : p) : Hid p := h

theorem ret_int {k : IntKind} {a b : Int} (h : a = b) : Ending.returned (.int k a) = .returned (.int k b) := by rw [h]
end Go.Proofs.Ytjbgepjdohfhkaa
end

section
/-
  Rows that the call itself made: kept over what is 'Below' them; an append whose source is told by 'Sees' (nil let in); a row made and filled by copy. No function of the program is named here.
-/
namespace Go.Proofs.Ytjbgepjdohfhkaa
open Go.RowKit

section
variable {w w' : World} {base : Nat} {e : TypeId} {size n : Nat} {v : Value} {xs : List Value}

theorem own_below (h : w.ownsRow base e size v n xs) (hb : Below w.heap.size w w') : w'.ownsRow base e size v n xs := by
  refine ⟨h.1, ?_⟩
  rcases h.2 with h2 | ⟨g, cap, cur, hv, hg, hh, hr⟩
  · exact .inl h2
  · refine .inr ⟨g, cap, cur, hv, hg, ?_, hr⟩
    have hlt : g < w.heap.size := by
      rcases Nat.lt_or_ge g w.heap.size with h1 | h1
      · exact h1
      · rw [Array.getElem?_eq_none h1] at hh; simp at hh
    rw [hb.block g hlt]; exact hh
theorem own_draws (h : w.ownsRow base e size v n xs) (k : Nat) : (w.drewN k).ownsRow base e size v n xs := h
theorem below_draws {B : Nat} {a : World} (h : Below B a w) (k : Nat) : Below B a (w.drewN k) := ⟨h.os, h.tape, h.output, h.size, h.block⟩
/-- The form of an owned row's value. -/
theorem own_form (h : w.ownsRow base e size v n xs) : ∃ A c, v = .slice A n c ∧ (A = none → c = 0) ∧ n ≤ maxLen := by
  rcases h.2 with ⟨rfl, rfl⟩ | ⟨g, cap, cur, rfl, _, _, hc, hm, _⟩
  · exact ⟨none, 0, rfl, fun _ => rfl, by omega⟩
  · exact ⟨some ⟨g, 0, none⟩, cap, rfl, fun hn => by simp at hn, by omega⟩
theorem own_block (h : w.ownsRow base e size v n xs) (hn : 0 < n) : ∃ g c, v = .slice (some ⟨g, 0, none⟩) n c ∧ base ≤ g ∧ g < w.heap.size ∧ n ≤ c ∧ c ≤ maxLen := by
  rcases h.2 with ⟨rfl, rfl⟩ | ⟨g, cap, cur, rfl, hg, hh, hc, hm, _⟩
  · omega
  · refine ⟨g, cap, rfl, hg, ?_, hc, hm⟩
    rcases Nat.lt_or_ge g w.heap.size with h1 | h1
    · exact h1
    · rw [Array.getElem?_eq_none h1] at hh; simp at hh
theorem own_len (h : w.ownsRow base e 1 v n xs) : xs.length = n := by have := h.1; omega
/-- What the caller held is as it was: an append to a row of the call's own. -/
theorem below_append {B : Nat} {a : World} (hb : Below B a w) (h : w.ownsRow base e size v n xs) (hB : B ≤ base) (hg : w.grownBy w' v.ownBlock) (hs : B ≤ w.heap.size) : Below B a w' :=
  hb.grown hg hs fun k hk => by have := (h.lt k hk).1; omega

theorem below_step {w0 w w' : World} (h : Below w0.heap.size w0 w) (h' : Below w.heap.size w w') : Below w0.heap.size w0 w' := h.trans (h'.mono h.size)
theorem one_new (w : World) (x : Value) (t : TypeId) : ∀ (j : Nat) (u : Value), [x][j]? = some u → (w.alloc (.cells #[x] t)).cell? ((⟨w.heap.size, 0, none⟩ : Addr).add j) = some u := by
  intro j u hu
  cases j with
  | zero =>
    simp at hu
    subst hu
    rw [WideShapes.add_plain, World.cell?_alloc_at _ _ _ _ rfl]
    rfl
  | succ j => simp at hu

theorem Sees.src {B : Nat} {A : Option Addr} (h : Sees w B A xs) (hp : 0 < xs.length) : ∃ ad, A = some ad ∧ ∀ (j : Nat) (u : Value), xs[j]? = some u → w.cell? (ad.add j) = some u := by
  obtain ⟨b, off, rfl, _, _⟩ := h 0 xs[0] (List.getElem?_eq_getElem hp)
  refine ⟨_, rfl, fun j u hu => ?_⟩
  obtain ⟨b', off', he, _, hc⟩ := h j u hu
  injection he with he
  injection he with h1 h2
  subst h1 h2
  rw [WideShapes.add_plain]; exact hc
end

/-- append(v, x...), v nil or a row of the call's own, x any slice that 'Sees' tells. -/
theorem wpList_append_sees {P : Program} {w : World} {ops : Array Oper} {rest : List Oper} {o : Oper} {a : Act} {Q : Exit → Act → World → Prop} (hgd : o.guard = none) (s x : Operand) (t : TypeId)
    (ho : o.op = .call { callee := .builtin .append, args := #[s, x], argTypes := #[t, t] })
    (base : Nat) (e : TypeId) (i : TypeInfo) (z : Value) (bytes : Nat) (ht : P.underlying t = some (.slice e)) (hi : P.info? e = some i) (hz : i.zero = some z)
    (hsize : i.size = 1) (hby : i.bytes = bytes) (hzs : z.cells.size = 1)
    (v : Value) (n : Nat) (xs : List Value) (hs : a.eval s = v) (hown : w.ownsRow base e 1 v n xs)
    (B : Nat) (A : Option Addr) (m c : Nat) (news : List Value) (hx : a.eval x = .slice A m c) (hA : Hid (A = none → c = 0)) (hl : news.length = m) (hsee : Sees w B A news) (h1 : ∀ u ∈ news, u.oneCell' = true)
    (h63 : n + m ≤ maxLen) (hbytes : (n + m) * bytes ≤ 140737488355328) (hbase : base ≤ w.heap.size)
    (h : ∀ v' w', w'.ownsRow base e 1 v' (n + m) (xs ++ news) → w.grownBy w' v.ownBlock → wpList P ops Q rest (a.put o.dst v') w') : wpList P ops Q (o :: rest) a w := by
  rcases A with _ | ad
  · have hm : news = [] := by
      rcases news with _ | ⟨u, r⟩
      · rfl
      · obtain ⟨_, _, he, _⟩ := hsee 0 u rfl
        simp at he
    subst hm
    simp at hl
    subst hl
    obtain rfl := hA.out rfl
    exact wpList_append_own_none hgd s x t ho base e i 1 ht hi v n xs hs hown hx (h v w (by simpa using hown) (World.grownBy.refl w _))
  · refine wpList_append_own w hgd s x t ho base e i z 1 bytes ht hi hz hsize hby hzs (by decide) v n xs hs hown ad m c news hx (by omega) (fun j u hu => ?_) h1 h63 hbytes hbase (fun v' w' h2 h3 _ => h v' w' h2 h3)
    rcases Nat.lt_or_ge 0 news.length with hp | hp
    · obtain ⟨ad', he, hc⟩ := hsee.src hp
      injection he with he
      subst he
      exact hc j u hu
    · have : news = [] := List.eq_nil_of_length_eq_zero (by omega)
      subst this
      simp at hu

/-- A row made with room for more, and filled from its head on. -/
theorem own_filled {w : World} {base g n L : Nat} {e : TypeId} {z : Value} {cs : List Value} (hn : cs.length = n) (hg : w.heap[g]? = some (.cells (splice (List.replicate (n + L) z) 0 cs).toArray e (0, 0))) (hb : base ≤ g) (hm : n + L ≤ maxLen) :
    w.ownsRow base e 1 (.slice (some ⟨g, 0, none⟩) n (n + L)) n cs := by
  subst hn
  refine ⟨by simp, .inr ⟨g, cs.length + L, _, rfl, hb, hg, by omega, hm, ?_, ?_⟩⟩
  · simp [splice]
  · simp [splice]

theorem madeCells_list (z : Value) (k : Nat) : madeCells #[z] k = (List.replicate k z).toArray := by
  rw [← toList_madeCells_one z k]
end Go.Proofs.Ytjbgepjdohfhkaa
end

section
/-
  Words for blocks that are known whole, for slices of pairs of ints, and for what a call leaves as it was. No function of the program is named here.
-/
namespace Go.Proofs.Ytjbgepjdohfhkaa
open Go.RowKit

/-- Block g is just these cells, of element type t, not frozen. -/
def Row (w : World) (g t : Nat) (cs : List Value) : Prop := w.heap[g]? = some (.cells cs.toArray t (0, 0))

section
variable {w w' : World} {g t : Nat} {cs : List Value}
theorem Row.lt (h : Row w g t cs) : g < w.heap.size := by
  rcases Nat.lt_or_ge g w.heap.size with hlt | hge
  · exact hlt
  · unfold Row at h; rw [Array.getElem?_eq_none hge] at h; cases h
theorem Row.cell (h : Row w g t cs) {k : Nat} {v : Value} (hk : cs[k]? = some v) : w.cell? ⟨g, k, none⟩ = some v := by
  rw [cell_of_row w g k _ _ (0, 0) h]
  simpa using hk
theorem Row.free (h : Row w g t cs) (k : Nat) : w.frozen? ⟨g, k, none⟩ = false := by
  unfold Row at h
  simp [World.frozen?, h]
theorem Row.new (w : World) (t : Nat) (cs : List Value) : Row (w.alloc (.cells cs.toArray t)) w.heap.size t cs := heap_alloc_new w _
theorem Row.drew (h : Row w g t cs) : Row w.drew g t cs := h
theorem Row.drewN (h : Row w g t cs) (n : Nat) : Row (w.drewN n) g t cs := h
theorem Row.alloc (h : Row w g t cs) (o : Obj) : Row (w.alloc o) g t cs := (Below.heap_alloc w o g h.lt).trans h
theorem Row.call (h : Row w g t cs) (hb : Below w.heap.size w w') : Row w' g t cs := (hb.block g h.lt).trans h
theorem Row.below {B : Nat} (h : Row w g t cs) (hb : Below B w w') (hg : g < B) : Row w' g t cs := (hb.block g hg).trans h
theorem Row.far (h : Row w g t cs) {p : Addr} (hp : g ≠ p.block) (u : Value) : Row (w.setCell p u) g t cs := (Below.heap_setCell w p u g hp).trans h
theorem Row.grown (h : Row w g t cs) {row : Option Nat} (hg : w.grownBy w' row) (hne : some g ≠ row) : Row w' g t cs := (hg.block g h.lt hne).trans h
theorem Row.at_ {g' : Nat} (h : Row w g t cs) (e : g = g') : Row w g' t cs := e ▸ h
theorem Row.set_ (h : Row w g t cs) (k : Nat) (u : Value) : Row (w.setCell ⟨g, k, none⟩ u) g t (cs.set k u) := by
  unfold Row at h ⊢
  simp [World.setCell, Array.getElem?_modify, h]
theorem Row.ne_ {g' t' : Nat} {cs' : List Value} (h : Row w g t cs) (h' : Row w g' t' cs') (hne : t ≠ t') : g ≠ g' := by
  rintro rfl
  unfold Row at h h'
  rw [h] at h'
  injection h' with h'
  injection h' with _ ht
  exact hne ht
end

theorem keep_cellB {W w1 : World} {p : Addr} {v : Value} (hb : Below W.heap.size W w1) (h : W.cell? p = some v) : w1.cell? p = some v := (hb.cell (World.block_lt_of_cell? _ _ h)).trans h
theorem below_call {w w' w'' : World} (h : Below w.heap.size w w') (hc : Below w'.heap.size w' w'') : Below w.heap.size w w'' := h.trans (hc.mono h.size)
theorem below1 (w : World) (o : Obj) : Below w.heap.size w (w.alloc o) := (Below.refl _ _).alloc (Nat.le_refl _) _
theorem below2 (w : World) (o p : Obj) : Below w.heap.size w ((w.alloc o).alloc p) := (below1 w o).alloc (by simp) _
theorem below3 (w : World) (o p q : Obj) : Below w.heap.size w (((w.alloc o).alloc p).alloc q) := (below2 w o p).alloc (by simp; omega) _

/-- The worlds in which all that lay in W lies as it did: the class in which a region that only reads, and whose callees make memory of their own alone, is walked once. -/
structure After (W : World) where
  w : World
  b : Below W.heap.size W w
instance (W : World) : Nonempty (After W) := ⟨⟨W, Below.refl _ _⟩⟩
theorem wp_region_after {P : Program} {id : Nat} {Q : Exit → Act → World → Prop} {a : Act} {W : World} {l : List Oper} (hm : P.follows .mixedOrders = true) (hB : Region.lexB .any l.toArray = true)
    (h : wpQuiet P l.toArray (fun w' => ∃ p : After W, w' = p.w) (fun a' => ∀ w', (∃ p : After W, w' = p.w) → Q .normal a' w') l a) : (Code.region id l.toArray true).wp P Q a W :=
  wp_region_quiet (C := fun w' => ∃ p : After W, w' = p.w) hm hB ⟨⟨W.drew, (Below.refl _ _).drew⟩, rfl⟩ (by simpa using h)
theorem after_of {P : Program} {f : FuncId} {args : Array Value} {W : World} {p : After W} {v : Value} (h : Calls P f args p.w fun e w' => e = .returned v ∧ Below p.w.heap.size p.w w') : Calls P f args p.w fun e w'' => e = .returned v ∧ ∃ q : After W, w'' = q.w :=
  h.mono fun _ w' ⟨he, hb⟩ => ⟨he, ⟨w', below_call p.b hb⟩, rfl⟩
theorem after_same {P : Program} {f : FuncId} {args : Array Value} {W : World} {p : After W} {v : Value} (h : Calls P f args p.w fun e w' => e = .returned v ∧ p.w = w') : Calls P f args p.w fun e w'' => e = .returned v ∧ ∃ q : After W, w'' = q.w :=
  h.mono fun _ _ ⟨he, hb⟩ => ⟨he, p, hb.symm⟩
theorem after_cell {W : World} {a : Addr} {v : Value} (h : W.cell? a = some v) (p : After W) : p.w.cell? a = some v := keep_cellB p.b h

/-- A pair of ints by value: an interval, a slot. -/
abbrev pv (o s : Int) : Value := .agg #[.int .i64 o, .int .i64 s]
/-- The cells of a list of pairs. -/
def pcells (l : List (Int × Int)) : List Value := l.flatMap fun u => [.int .i64 u.1, .int .i64 u.2]
theorem pcells_length (l : List (Int × Int)) : (pcells l).length = l.length * 2 := by
  induction l with
  | nil => rfl
  | cons u r ih => simp only [pcells, List.flatMap_cons, List.length_append, List.length_cons, List.length_nil] at ih ⊢; omega
theorem pcells_append (l m : List (Int × Int)) : pcells (l ++ m) = pcells l ++ pcells m := by simp [pcells]
theorem pcells_one (o s : Int) : pcells [(o, s)] = [.int .i64 o, .int .i64 s] := rfl
theorem pcells_at (l : List (Int × Int)) (k : Nat) (u : Int × Int) (h : l[k]? = some u) : (pcells l)[k * 2]? = some (.int .i64 u.1) ∧ (pcells l)[k * 2 + 1]? = some (.int .i64 u.2) := by
  induction l generalizing k with
  | nil => simp at h
  | cons v r ih =>
    cases k with
    | zero => simp at h; subst h; exact ⟨rfl, rfl⟩
    | succ k =>
      have h' := ih k (by simpa using h)
      have e : pcells (v :: r) = .int .i64 v.1 :: .int .i64 v.2 :: pcells r := rfl
      rw [e, show (k + 1) * 2 = k * 2 + 1 + 1 by omega, show k * 2 + 1 + 1 + 1 = (k * 2 + 1) + 1 + 1 by omega]
      simpa using h'
theorem pcells_oneCell (l : List (Int × Int)) : ∀ v ∈ pcells l, v.oneCell' = true := by
  intro v hv
  simp only [pcells, List.mem_flatMap] at hv
  obtain ⟨u, _, hv⟩ := hv
  simp at hv
  rcases hv with rfl | rfl <;> rfl
/-- The pair at place k, and where it stands. -/
theorem pair_at {w : World} {B : Nat} {A : Option Addr} {l : List (Int × Int)} {k : Nat} (h : Sees w B A (pcells l)) (hk : k < l.length) :
    ∃ b off, A = some ⟨b, off, none⟩ ∧ b < B ∧ w.cell? ⟨b, off + k * 2, none⟩ = some (.int .i64 l[k].1) ∧ w.cell? ⟨b, off + k * 2 + 1, none⟩ = some (.int .i64 l[k].2) := by
  obtain ⟨h1, h2⟩ := pcells_at l k _ (List.getElem?_eq_getElem hk)
  obtain ⟨b, off, e, hb, hc⟩ := h _ _ h1
  obtain ⟨b', off', e', _, hc'⟩ := h _ _ h2
  have he := e.symm.trans e'
  injection he with he
  injection he with e1 e2
  subst e1 e2
  exact ⟨b, off, e, hb, hc, hc'⟩
/-- A row of the call's own, whatever its elements' size. -/
theorem Sees.ownN {w : World} {base size : Nat} {e : TypeId} {A : Option Addr} {n c : Nat} {xs : List Value} (h : w.ownsRow base e size (.slice A n c) n xs) : Sees w w.heap.size A xs := fun k u hu => by
  have hk : k < xs.length := by
    rcases Nat.lt_or_ge k xs.length with h1 | h1
    · exact h1
    · rw [List.getElem?_eq_none h1] at hu; simp at hu
  have hl := h.1
  rcases h.2 with ⟨he, h0⟩ | ⟨g, cap, cur, he, hg, hh, _⟩
  · subst h0; omega
  · have hA : A = some ⟨g, 0, none⟩ := by injection he
    subst hA
    have hlt : g < w.heap.size := by
      rcases Nat.lt_or_ge g w.heap.size with h1 | h1
      · exact h1
      · rw [Array.getElem?_eq_none h1] at hh; simp at hh
    refine ⟨g, 0, rfl, hlt, ?_⟩
    have := h.cells (g := g) rfl k u hu
    rwa [WideShapes.add_plain] at this
end Go.Proofs.Ytjbgepjdohfhkaa
end

section
/-
  Plain mathematics of sets of small numbers: ascending lists, and numbers whose bits are the elements; their eight words. No function of the program is named here.
-/
namespace Go.Proofs.Ytjbgepjdohfhkaa
open Go.RowKit

/-- Ints as cells. -/
def cellsI (zs : List Int) : List Value := zs.map (Value.int .i64)
theorem cellsI_length (zs : List Int) : (cellsI zs).length = zs.length := by simp [cellsI]
theorem cellsI_append (a b : List Int) : cellsI (a ++ b) = cellsI a ++ cellsI b := by simp [cellsI]
theorem get_i64 {zs : List Int} {k : Nat} (h : k < zs.length) : (cellsI zs)[k]? = some (.int .i64 zs[k]) := by
  simp [cellsI, List.getElem?_map, List.getElem?_eq_getElem h]
theorem cellsI_one (zs : List Int) : ∀ v ∈ cellsI zs, v.oneCell' = true := by
  intro v hv
  simp only [cellsI, List.mem_map] at hv
  obtain ⟨z, _, rfl⟩ := hv
  rfl
/-- The int at place k, and where it stands. -/
theorem int_at {w : World} {B : Nat} {A : Option Addr} {zs : List Int} {k : Nat} (h : Sees w B A (cellsI zs)) (hk : k < zs.length) :
    ∃ b off, A = some ⟨b, off, none⟩ ∧ b < B ∧ w.cell? ⟨b, off + k, none⟩ = some (.int .i64 zs[k]) := h k _ (get_i64 hk)

/-- A set as a list: ascending, from 0 to 511. -/
def Asc (l : List Int) : Prop := l.Pairwise (· < ·) ∧ ∀ z ∈ l, 0 ≤ z ∧ z < 512

theorem pw_ext : ∀ {l m : List Int}, l.Pairwise (· < ·) → m.Pairwise (· < ·) → (∀ z, z ∈ l ↔ z ∈ m) → l = m
  | [], [], _, _, _ => rfl
  | [], y :: m, _, _, h => absurd ((h y).2 (by simp)) (by simp)
  | x :: l, [], _, _, h => absurd ((h x).1 (by simp)) (by simp)
  | x :: l, y :: m, hl, hm, h => by
    obtain ⟨hx, hl2⟩ := List.pairwise_cons.1 hl
    obtain ⟨hy, hm2⟩ := List.pairwise_cons.1 hm
    have e : x = y := by
      rcases List.mem_cons.1 ((h x).1 (by simp)) with e | e
      · exact e
      · rcases List.mem_cons.1 ((h y).2 (by simp)) with e' | e'
        · exact e'.symm
        · have := hy x e; have := hx y e'; omega
    subst e
    have key : ∀ z, z ∈ l ↔ z ∈ m := by
      intro z
      constructor
      · intro hz
        rcases List.mem_cons.1 ((h z).1 (List.mem_cons_of_mem _ hz)) with e | e
        · have := hx z hz; omega
        · exact e
      · intro hz
        rcases List.mem_cons.1 ((h z).2 (List.mem_cons_of_mem _ hz)) with e | e
        · have := hy z hz; omega
        · exact e
    rw [pw_ext hl2 hm2 key]
theorem Asc.ext {l m : List Int} (hl : Asc l) (hm : Asc m) (h : ∀ z, 0 ≤ z → z < 512 → (z ∈ l ↔ z ∈ m)) : l = m :=
  pw_ext hl.1 hm.1 fun z => ⟨fun hz => (h z (hl.2 z hz).1 (hl.2 z hz).2).1 hz, fun hz => (h z (hm.2 z hz).1 (hm.2 z hz).2).2 hz⟩
theorem pw_len : ∀ (l : List Int) (a b : Int), a ≤ b → l.Pairwise (· < ·) → (∀ z ∈ l, a ≤ z ∧ z < b) → (l.length : Int) ≤ b - a
  | [], a, b, h, _, _ => by simp; omega
  | x :: l, a, b, h, hp, hz => by
    obtain ⟨hx, hl⟩ := List.pairwise_cons.1 hp
    have h0 := hz x (by simp)
    have := pw_len l (x + 1) b (by omega) hl fun z h => ⟨by have := hx z h; omega, (hz z (List.mem_cons_of_mem _ h)).2⟩
    rw [List.length_cons]
    omega
theorem Asc.length {l : List Int} (h : Asc l) : l.length ≤ 512 := by
  have := pw_len l 0 512 (by omega) h.1 h.2
  omega
theorem Asc.nil : Asc [] := ⟨.nil, fun z h => by cases h⟩

/-- The bit of n, if a set can have it. -/
def one (n : Int) : Nat := if 0 ≤ n ∧ n < 512 then 2 ^ n.toNat else 0
theorem one_bit (n : Int) (j : Nat) : (one n).testBit j = decide ((j : Int) = n ∧ j < 512) := by
  unfold one
  split
  · rw [Nat.testBit_two_pow]
    congr 1
    apply propext
    constructor <;> intro h <;> omega
  · rw [Nat.zero_testBit]
    symm
    rw [decide_eq_false_iff_not]
    omega
/-- N without the bits of M. -/
def diff (N M : Nat) : Nat := N ^^^ (N &&& M)
theorem diff_bit (N M j : Nat) : (diff N M).testBit j = (N.testBit j && !M.testBit j) := by
  unfold diff
  rw [Nat.testBit_xor, Nat.testBit_and]
  cases N.testBit j <;> cases M.testBit j <;> rfl
theorem diff_lt {N M k : Nat} (h : N < 2 ^ k) : diff N M < 2 ^ k := by
  unfold diff
  exact Nat.xor_lt_two_pow h (Nat.lt_of_le_of_lt Nat.and_le_left h)
/-- The bits of a list's elements. -/
def bs (l : List Int) : Nat := l.foldl (fun N n => N ||| one n) 0
theorem bs_from (l : List Int) (N j : Nat) : (l.foldl (fun N n => N ||| one n) N).testBit j = (N.testBit j || decide ((j : Int) ∈ l ∧ j < 512)) := by
  induction l generalizing N with
  | nil => simp
  | cons x l ih =>
    rw [List.foldl_cons, ih, Nat.testBit_or, one_bit, Bool.or_assoc]
    congr 1
    rw [← Bool.decide_or]
    congr 1
    apply propext
    rw [List.mem_cons]
    constructor
    · rintro (⟨h, h'⟩ | ⟨h, h'⟩)
      · exact ⟨.inl h, h'⟩
      · exact ⟨.inr h, h'⟩
    · rintro ⟨h | h, h'⟩
      · exact .inl ⟨h, h'⟩
      · exact .inr ⟨h, h'⟩
theorem bs_bit (l : List Int) (j : Nat) : (bs l).testBit j = decide ((j : Int) ∈ l ∧ j < 512) := by
  rw [bs, bs_from, Nat.zero_testBit, Bool.false_or]
theorem bs_snoc (l : List Int) (n : Int) : bs (l ++ [n]) = bs l ||| one n := by simp [bs]

/-- The elements below 64 k. -/
def pre (N k : Nat) : List Int := ((List.range (64 * k)).filter fun j => N.testBit j).map fun (j : Nat) => (j : Int)
/-- The elements, ascending. -/
def els (N : Nat) : List Int := pre N 8
theorem mem_pre {N k : Nat} {z : Int} : z ∈ pre N k ↔ 0 ≤ z ∧ z < 64 * k ∧ N.testBit z.toNat = true := by
  simp only [pre, List.mem_map, List.mem_filter, List.mem_range]
  constructor
  · rintro ⟨j, ⟨h1, h2⟩, rfl⟩
    exact ⟨by omega, by omega, by simpa using h2⟩
  · rintro ⟨h1, h2, h3⟩
    exact ⟨z.toNat, ⟨by omega, h3⟩, by omega⟩
theorem mem_els {N : Nat} {z : Int} : z ∈ els N ↔ 0 ≤ z ∧ z < 512 ∧ N.testBit z.toNat = true := mem_pre
theorem pw_pre (N k : Nat) : (pre N k).Pairwise (· < ·) := by
  unfold pre
  rw [List.pairwise_map]
  refine ((List.pairwise_lt_range (n := 64 * k)).filter _).imp ?_
  intro a b h
  omega
theorem els_asc (N : Nat) : Asc (els N) := ⟨pw_pre N 8, fun z h => ⟨(mem_els.1 h).1, (mem_els.1 h).2.1⟩⟩
theorem els_length (N : Nat) : (els N).length ≤ 512 := (els_asc N).length
theorem pre_length (N k : Nat) : (pre N k).length ≤ 64 * k := by
  have := pw_len (pre N k) 0 (64 * k : Nat) (by omega) (pw_pre N k) fun z h => ⟨(mem_pre.1 h).1, by have := (mem_pre.1 h).2.1; omega⟩
  omega

/-- Word i of N. -/
def wd (N i : Nat) : Nat := N / 2 ^ (64 * i) % 2 ^ 64
theorem wd_bit (N i j : Nat) : (wd N i).testBit j = (decide (j < 64) && N.testBit (64 * i + j)) := by
  unfold wd
  rw [Nat.testBit_mod_two_pow, Nat.testBit_div_two_pow, Nat.add_comm]
theorem wd_lt (N i : Nat) : wd N i < 18446744073709551616 := Nat.mod_lt _ (by decide)
theorem wd_or (N M i : Nat) : wd (N ||| M) i = wd N i ||| wd M i := by
  apply Nat.eq_of_testBit_eq
  intro j
  simp only [wd_bit, Nat.testBit_or]
  cases decide (j < 64) <;> simp
theorem wd_and (N M i : Nat) : wd (N &&& M) i = wd N i &&& wd M i := by
  apply Nat.eq_of_testBit_eq
  intro j
  simp only [wd_bit, Nat.testBit_and]
  cases decide (j < 64) <;> simp
theorem wd_diff (N M i : Nat) : wd (diff N M) i = diff (wd N i) (wd M i) := by
  apply Nat.eq_of_testBit_eq
  intro j
  simp only [wd_bit, diff_bit]
  cases decide (j < 64) <;> simp
theorem wd_zero (i : Nat) : wd 0 i = 0 := by simp [wd]
/-- All words are 0: no element. -/
theorem wd_all {N : Nat} (h : ∀ i, i < 8 → wd N i = 0) : els N = [] := by
  rw [List.eq_nil_iff_forall_not_mem]
  intro z hz
  obtain ⟨h0, h1, h2⟩ := mem_els.1 hz
  have := wd_bit N (z.toNat / 64) (z.toNat % 64)
  rw [h _ (by omega), Nat.zero_testBit, decide_eq_true (by omega : z.toNat % 64 < 64), Nat.div_add_mod, h2] at this
  cases this
theorem els_nil {N : Nat} (h : els N = []) (i : Nat) (hi : i < 8) : wd N i = 0 := by
  apply Nat.eq_of_testBit_eq
  intro j
  rw [wd_bit, Nat.zero_testBit]
  by_cases hj : j < 64
  · cases hb : N.testBit (64 * i + j) with
    | false => simp
    | true =>
      have : ((64 * i + j : Nat) : Int) ∈ els N := mem_els.2 ⟨by omega, by omega, by rw [Int.toNat_natCast]; exact hb⟩
      rw [h] at this
      cases this
  · simp [hj]

/-- The word that n lies in, and its bit there; no bit, if no set can have n. -/
def pl (n : Int) : Nat := if 0 ≤ n ∧ n < 512 then n.toNat / 64 else 0
def bt (n : Int) : Nat := if 0 ≤ n ∧ n < 512 then 2 ^ (n.toNat % 64) else 0
theorem pl_lt (n : Int) : pl n < 8 := by unfold pl; split <;> omega
theorem bt_lt (n : Int) : bt n < 18446744073709551616 := by
  unfold bt
  split
  · exact Nat.pow_lt_pow_right (by decide) (Nat.mod_lt _ (by decide) : n.toNat % 64 < 64)
  · decide
theorem wd_one (n : Int) (i : Nat) : wd (one n) i = if i = pl n then bt n else 0 := by
  apply Nat.eq_of_testBit_eq
  intro j
  rw [wd_bit, one_bit]
  unfold pl bt
  by_cases hn : 0 ≤ n ∧ n < 512
  · rw [if_pos hn, if_pos hn]
    by_cases hi : i = n.toNat / 64
    · rw [if_pos hi, Nat.testBit_two_pow, ← Bool.decide_and]
      congr 1
      apply propext
      constructor
      · rintro ⟨h1, h2, h3⟩; omega
      · intro h; refine ⟨by omega, ?_, ?_⟩ <;> omega
    · rw [if_neg hi, Nat.zero_testBit, ← Bool.decide_and, decide_eq_false_iff_not]
      rintro ⟨h1, h2, h3⟩
      omega
  · rw [if_neg hn, if_neg hn]
    have e : decide (((64 * i + j : Nat) : Int) = n ∧ 64 * i + j < 512) = false := by
      rw [decide_eq_false_iff_not]; omega
    rw [e]
    simp

/-- Eight words as cells. -/
def w8 (f : Nat → Nat) : List Value := [.int .u64 (f 0 : Nat), .int .u64 (f 1 : Nat), .int .u64 (f 2 : Nat), .int .u64 (f 3 : Nat), .int .u64 (f 4 : Nat), .int .u64 (f 5 : Nat), .int .u64 (f 6 : Nat), .int .u64 (f 7 : Nat)]
theorem lt8 {k : Nat} (h : k < 8) : k = 0 ∨ k = 1 ∨ k = 2 ∨ k = 3 ∨ k = 4 ∨ k = 5 ∨ k = 6 ∨ k = 7 := by omega
theorem w8_at (f : Nat → Nat) {k : Nat} (h : k < 8) : (w8 f)[k]? = some (.int .u64 (f k : Nat)) := by
  rcases lt8 h with rfl | rfl | rfl | rfl | rfl | rfl | rfl | rfl <;> rfl
theorem w8_set (f : Nat → Nat) {k : Nat} (h : k < 8) (x : Nat) : (w8 f).set k (.int .u64 (x : Nat)) = w8 fun i => if i = k then x else f i := by
  rcases lt8 h with rfl | rfl | rfl | rfl | rfl | rfl | rfl | rfl <;> rfl
theorem w8_congr {f g : Nat → Nat} (h : ∀ i, i < 8 → f i = g i) : w8 f = w8 g := by
  simp [w8, h]

theorem u64_diff_nat (a b : Nat) (ha : a < 18446744073709551616) (hb : b < 18446744073709551616) : bits .andNot .u64 (a : Int) (b : Int) = ((diff a b : Nat) : Int) := by
  have hx : diff a b < 2 ^ 64 := diff_lt (by omega)
  have h1 : (BitVec.ofInt 64 (a : Int)).toNat = a := by
    rw [BitVec.ofInt_natCast, BitVec.toNat_ofNat]; exact Nat.mod_eq_of_lt (by omega)
  have h2 : (BitVec.ofInt 64 (b : Int)).toNat = b := by
    rw [BitVec.ofInt_natCast, BitVec.toNat_ofNat]; exact Nat.mod_eq_of_lt (by omega)
  have e : (BitVec.ofInt 64 (a : Int) &&& ~~~BitVec.ofInt 64 (b : Int)).toNat = diff a b := by
    apply Nat.eq_of_testBit_eq
    intro j
    rw [diff_bit, BitVec.testBit_toNat, BitVec.getLsbD_and, BitVec.getLsbD_not, ← BitVec.testBit_toNat, ← BitVec.testBit_toNat, h1, h2]
    by_cases hj : j < 64
    · simp [hj]
    · rw [Nat.testBit_lt_two_pow (show a < 2 ^ j from Nat.lt_of_lt_of_le (by omega : a < 2 ^ 64) (Nat.pow_le_pow_right (by decide) (by omega)))]
      simp
  show IntKind.u64.wrap ((BitVec.ofInt 64 (a : Int) &&& ~~~BitVec.ofInt 64 (b : Int)).toNat : Int) = _
  rw [e, IntKind.wrap_u64]
  omega
end Go.Proofs.Ytjbgepjdohfhkaa
end

section
/-
  Lists of ints in memory: a slice that can be read (Lst), a list that a call hands back (OutPost), a loop that appends (IntRel). No function of the program is named here.
-/
namespace Go.Proofs.Ytjbgepjdohfhkaa
open Go.RowKit

/-- What a function that hands back a list leaves. -/
def OutPost (l : List Int) (w : World) (e : Ending) (w' : World) : Prop :=
  ∃ (A : Option Addr) (c : Nat), e = .returned (.slice A l.length c) ∧ w'.ownsRow w.heap.size 3 1 (.slice A l.length c) l.length (cellsI l) ∧ Below w.heap.size w w'

/-- What the loops keep: the list so far. -/
def IntRel (w : World) (l : List Int) (v : Value) (wr : World) : Prop := wr.ownsRow w.heap.size 3 1 v l.length (cellsI l) ∧ Below w.heap.size w wr
theorem IntRel.step {w wr w2 : World} {l : List Int} {v v' : Value} {x : Int} {o : Obj} (h : Hid (IntRel w l v wr)) (ho : w2.ownsRow w.heap.size 3 1 v' (l.length + 1) (cellsI l ++ [.int .i64 x])) (hg : (wr.alloc o).grownBy w2 v.ownBlock) : IntRel w (l ++ [x]) v' w2 := by
  refine ⟨?_, below_append (h.out.2.alloc h.out.2.size o) (h.out.1.alloc o) (Nat.le_refl _) hg (Nat.le_trans h.out.2.size (by simp))⟩
  rw [cellsI_append, List.length_append]
  exact ho
theorem IntRel.start (w w' : World) (hb : Below w.heap.size w w') : IntRel w [] (.slice none 0 0) w' := ⟨⟨by simp [cellsI], .inl ⟨rfl, rfl⟩⟩, hb⟩
theorem IntRel.out {w w' : World} {l : List Int} {v : Value} (h : IntRel w l v w') : ∃ A c, v = .slice A l.length c ∧ (A = none → c = 0) ∧ OutPost l w (.returned (.slice A l.length c)) w' := by
  obtain ⟨A, c, rfl, hA, _⟩ := own_form h.1
  exact ⟨A, c, rfl, hA, A, c, rfl, h.1, h.2⟩

theorem infoI : (Try.prog.info? 3).map (fun i => (i.zero, i.size, i.bytes)) = some (some (.int .i64 0), 1, 8) := by kernel_rfl
theorem one_cell (x : Int) : ∀ u ∈ [Value.int .i64 x], u.oneCell' = true := by
  intro u hu
  simp at hu
  subst hu
  rfl
/-- A slice of ints that can be read: at A stand the n ints zs. -/
structure Lst (w : World) (A : Option Addr) (n : Nat) (zs : List Int) : Prop where
  len : zs.length = n
  le : n ≤ 9223372036854775807
  see : Sees w w.heap.size A (cellsI zs)
  rng : ∀ z ∈ zs, -9223372036854775808 ≤ z ∧ z ≤ 9223372036854775807
theorem Lst.below {w w' : World} {A : Option Addr} {n : Nat} {zs : List Int} (h : Lst w A n zs) (hb : Below w.heap.size w w') : Lst w' A n zs := ⟨h.len, h.le, (h.see.below hb).more hb.size, h.rng⟩
theorem own_lower {w : World} {base base' : Nat} {e : TypeId} {size n : Nat} {v : Value} {xs : List Value} (h : w.ownsRow base e size v n xs) (hb : base' ≤ base) : w.ownsRow base' e size v n xs := by
  refine ⟨h.1, ?_⟩
  rcases h.2 with h2 | ⟨g, cap, cur, hv, hg, hh, hr⟩
  · exact .inl h2
  · exact .inr ⟨g, cap, cur, hv, by omega, hh, hr⟩
theorem OutPost.lift {l : List Int} {w w1 w' : World} {e : Ending} (h : OutPost l w1 e w') (hb : Below w.heap.size w w1) : OutPost l w e w' := by
  obtain ⟨A, c, he, ho, hb'⟩ := h
  exact ⟨A, c, he, own_lower ho hb.size, below_call hb hb'⟩
theorem IntRel.call {w wr w2 : World} {l : List Int} {v : Value} (h : IntRel w l v wr) (hb : Below wr.heap.size wr w2) : IntRel w l v w2 := ⟨own_below h.1 hb, below_call h.2 hb⟩
theorem IntRel.done {w wr : World} {l : List Int} {v : Value} (h : IntRel w l v wr) : OutPost l w (.returned v) wr := by
  obtain ⟨A, c, rfl, -, -⟩ := own_form h.1
  exact ⟨A, c, rfl, h.1, h.2⟩
end Go.Proofs.Ytjbgepjdohfhkaa
end
