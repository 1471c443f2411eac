import Derived.Test.YthaabgiefpfeaaaMPmath
import Derived.Test.YthaabgiefpfeaaaMOwn
import Derived.Test.YthaabgiefpfeaaaMKit
import Derived.OwnWalk
set_option linter.unusedVariables false
set_option linter.unusedSimpArgs false
section
/-
  Programs in memory: rows of instructions, rows of functions, what lies behind them; kept over what a call leaves. No function of the program is named here.
-/
namespace Go.Proofs.Ythaabgiefpfeaaa
open Go.RowKit

section
variable {α : Type} {f : α → List Value} {m : Nat}
theorem flat_len (hm : ∀ a, (f a).length = m) (l : List α) : (l.flatMap f).length = l.length * m := by
  induction l with
  | nil => simp
  | cons b r ih => simp only [List.flatMap_cons, List.length_append, List.length_cons, ih, hm b]; rw [Nat.add_mul]; omega
theorem flat_at (hm : ∀ a, (f a).length = m) (l : List α) (k : Nat) (a : α) (h : l[k]? = some a) (j : Nat) (hj : j < m) : (l.flatMap f)[k * m + j]? = (f a)[j]? := by
  induction l generalizing k with
  | nil => simp at h
  | cons b r ih =>
    rw [List.flatMap_cons]
    cases k with
    | zero =>
      simp at h; subst h
      rw [Nat.zero_mul, Nat.zero_add, List.getElem?_append_left (by rw [hm]; exact hj)]
    | succ k =>
      rw [List.getElem?_append_right (by rw [hm, Nat.add_mul]; omega), hm b, show (k + 1) * m + j - m = k * m + j by rw [Nat.add_mul]; omega]
      exact ih k (by simpa using h)
theorem flat_set (hm : ∀ a, (f a).length = m) (l : List α) (k : Nat) (a b : α) (h : l[k]? = some a) (j : Nat) (hj : j < m) (v : Value) (hb : f b = (f a).set j v) : (l.flatMap f).set (k * m + j) v = (l.set k b).flatMap f := by
  induction l generalizing k with
  | nil => simp at h
  | cons c r ih =>
    rw [List.flatMap_cons]
    cases k with
    | zero =>
      simp at h; subst h
      rw [Nat.zero_mul, Nat.zero_add, List.set_append_left _ _ (by rw [hm]; exact hj), List.set_cons_zero, List.flatMap_cons, hb]
    | succ k =>
      rw [List.set_append_right _ _ (by rw [hm, Nat.add_mul]; omega), hm c, show (k + 1) * m + j - m = k * m + j by rw [Nat.add_mul]; omega, List.set_cons_succ, List.flatMap_cons, ih k (by simpa using h)]
end

/-- An instruction, a function, a program by value. -/
abbrev iv (o a b c m : Int) : Value := .agg #[.int .i64 o, .int .i64 a, .int .i64 b, .int .i64 c, .int .u64 m]
abbrev fv (P : Int) (A1 : Option Addr) (n1 c1 : Nat) (A2 : Option Addr) (n2 c2 : Nat) : Value := .agg #[.int .i64 P, .slice A1 n1 c1, .slice A2 n2 c2]
abbrev gv (A : Option Addr) (n c : Nat) : Value := .agg #[.slice A n c]
/-- The cells of a list of instructions. -/
def icell (x : Ins) : List Value := [.int .i64 x.op, .int .i64 x.a, .int .i64 x.b, .int .i64 x.c, .int .u64 x.imm]
def icells (l : List Ins) : List Value := l.flatMap icell
theorem icell_len (x : Ins) : (icell x).length = 5 := rfl
theorem icells_length (l : List Ins) : (icells l).length = l.length * 5 := flat_len icell_len l
theorem icells_append (l m : List Ins) : icells (l ++ m) = icells l ++ icells m := by simp [icells]
theorem icells_one (x : Ins) : icells [x] = [.int .i64 x.op, .int .i64 x.a, .int .i64 x.b, .int .i64 x.c, .int .u64 x.imm] := rfl
theorem icells_oneCell (l : List Ins) : ∀ v ∈ icells l, v.oneCell' = true := by
  intro v hv
  simp only [icells, List.mem_flatMap] at hv
  obtain ⟨x, _, hv⟩ := hv
  simp [icell] at hv
  rcases hv with rfl | rfl | rfl | rfl | rfl <;> rfl
/-- A function's head: its parameters and its two slices. -/
structure Hd where
  p : Int
  a1 : Option Addr
  n1 : Nat
  c1 : Nat
  a2 : Option Addr
  n2 : Nat
  c2 : Nat
def hcell (h : Hd) : List Value := [.int .i64 h.p, .slice h.a1 h.n1 h.c1, .slice h.a2 h.n2 h.c2]
def hcells (l : List Hd) : List Value := l.flatMap hcell
theorem hcell_len (h : Hd) : (hcell h).length = 3 := rfl
theorem hcells_length (l : List Hd) : (hcells l).length = l.length * 3 := flat_len hcell_len l
theorem hcells_append (l m : List Hd) : hcells (l ++ m) = hcells l ++ hcells m := by simp [hcells]
theorem hcells_oneCell (l : List Hd) : ∀ v ∈ hcells l, v.oneCell' = true := by
  intro v hv
  simp only [hcells, List.mem_flatMap] at hv
  obtain ⟨x, _, hv⟩ := hv
  simp [hcell] at hv
  rcases hv with rfl | rfl | rfl <;> rfl

/-- An address is nil or lies from block lo on. -/
def Far (lo : Nat) (A : Option Addr) : Prop := ∀ a, A = some a → lo ≤ a.block
theorem Far.zero (A : Option Addr) : Far 0 A := fun _ _ => Nat.zero_le _
theorem Far.more {lo lo' : Nat} {A : Option Addr} (h : Far lo A) (hl : lo' ≤ lo) : Far lo' A := fun a e => Nat.le_trans hl (h a e)
theorem Far.none (lo : Nat) : Far lo none := fun _ e => by cases e
/-- What is seen, where all from lo on to B has been kept. -/
theorem Sees.keepF {w w' : World} {lo B : Nat} {A : Option Addr} {xs : List Value} (h : Sees w B A xs) (hf : Far lo A) (hk : ∀ p : Addr, lo ≤ p.block → p.block < B → w'.cell? p = w.cell? p) : Sees w' B A xs := fun k u hu => by
  obtain ⟨b, off, e, hb, hc⟩ := h k u hu
  have hl : lo ≤ b := hf _ e
  exact ⟨b, off, e, hb, (hk ⟨b, off + k, .none⟩ hl hb).trans hc⟩

/-- A slice's own bounds. -/
def Cap (A : Option Addr) (n c : Nat) : Prop := (A = none → c = 0) ∧ n ≤ c ∧ n ≤ 8796093022208
/-- The head h is function f: its slices lie from block lo on, below B. -/
structure HdAt (w : World) (lo B : Nat) (h : Hd) (f : Fn) : Prop where
  p : h.p = f.params
  l1 : f.slots.length = h.n1
  l2 : f.code.length = h.n2
  k1 : Cap h.a1 h.n1 h.c1
  k2 : Cap h.a2 h.n2 h.c2
  f1 : Far lo h.a1
  f2 : Far lo h.a2
  s1 : Sees w B h.a1 (pcells f.slots)
  s2 : Sees w B h.a2 (icells f.code)
/-- The heads hs are the program F. -/
structure Hds (w : World) (lo B : Nat) (hs : List Hd) (F : Pg) : Prop where
  len : hs.length = F.length
  at_ : ∀ (k : Nat) (h : Hd) (f : Fn), hs[k]? = some h → F[k]? = some f → HdAt w lo B h f
/-- At the slice A, n, c stands the program F. -/
structure PgAt (w : World) (lo B : Nat) (A : Option Addr) (n c : Nat) (hs : List Hd) (F : Pg) : Prop where
  len : F.length = n
  cap : Cap A n c
  far : Far lo A
  see : Sees w B A (hcells hs)
  hd : Hds w lo B hs F

section
variable {w w' : World} {lo lo' B B' : Nat} {h : Hd} {f : Fn} {hs : List Hd} {F : Pg} {A : Option Addr} {n c : Nat}
theorem HdAt.keep (H : HdAt w lo B h f) (hk : ∀ p : Addr, lo ≤ p.block → p.block < B → w'.cell? p = w.cell? p) : HdAt w' lo B h f := ⟨H.p, H.l1, H.l2, H.k1, H.k2, H.f1, H.f2, H.s1.keepF H.f1 hk, H.s2.keepF H.f2 hk⟩
theorem HdAt.more (H : HdAt w lo B h f) (hB : B ≤ B') (hl : lo' ≤ lo) : HdAt w lo' B' h f := ⟨H.p, H.l1, H.l2, H.k1, H.k2, H.f1.more hl, H.f2.more hl, H.s1.more hB, H.s2.more hB⟩
theorem Hds.keep (H : Hds w lo B hs F) (hk : ∀ p : Addr, lo ≤ p.block → p.block < B → w'.cell? p = w.cell? p) : Hds w' lo B hs F := ⟨H.len, fun k h f e1 e2 => (H.at_ k h f e1 e2).keep hk⟩
theorem Hds.more (H : Hds w lo B hs F) (hB : B ≤ B') (hl : lo' ≤ lo) : Hds w lo' B' hs F := ⟨H.len, fun k h f e1 e2 => (H.at_ k h f e1 e2).more hB hl⟩
theorem PgAt.keep (H : PgAt w lo B A n c hs F) (hk : ∀ p : Addr, lo ≤ p.block → p.block < B → w'.cell? p = w.cell? p) : PgAt w' lo B A n c hs F := ⟨H.len, H.cap, H.far, H.see.keepF H.far hk, H.hd.keep hk⟩
theorem PgAt.more (H : PgAt w lo B A n c hs F) (hB : B ≤ B') (hl : lo' ≤ lo) : PgAt w lo' B' A n c hs F := ⟨H.len, H.cap, H.far.more hl, H.see.more hB, H.hd.more hB hl⟩
theorem PgAt.below (H : PgAt w lo B A n c hs F) (hb : Below B w w') : PgAt w' lo B A n c hs F := H.keep fun _ _ hp => hb.cell hp
theorem PgAt.call (H : PgAt w lo w.heap.size A n c hs F) (hb : Below w.heap.size w w') : PgAt w' lo w'.heap.size A n c hs F := (H.below hb).more hb.size (Nat.le_refl _)
theorem PgAt.drewN (H : PgAt w lo B A n c hs F) (k : Nat) : PgAt (w.drewN k) lo B A n c hs F := H.keep fun _ _ _ => rfl
theorem PgAt.alloc (H : PgAt w lo w.heap.size A n c hs F) (o : Obj) : PgAt (w.alloc o) lo (w.alloc o).heap.size A n c hs F := H.call (below1 w o)
theorem PgAt.grown {g : Nat} (H : PgAt w lo B A n c hs F) (hg : w.grownBy w' (some g)) (hlo : g < lo) (hB : B ≤ w.heap.size) : PgAt w' lo B A n c hs F :=
  H.keep fun p h1 h2 => World.cell?_of_block (hg.block p.block (by omega) (fun e => by injection e with e; omega))
theorem HdAt.below (H : HdAt w lo B h f) (hb : Below B w w') : HdAt w' lo B h f := H.keep fun _ _ hp => hb.cell hp
theorem HdAt.grown {g : Nat} (H : HdAt w lo B h f) (hg : w.grownBy w' (some g)) (hlo : g < lo) (hB : B ≤ w.heap.size) : HdAt w' lo B h f :=
  H.keep fun p h1 h2 => World.cell?_of_block (hg.block p.block (by omega) (fun e => by injection e with e; omega))

/-- The instruction at place k, and where it stands. -/
theorem ins_at {l : List Ins} {k : Nat} (h : Sees w B A (icells l)) (hk : k < l.length) :
    ∃ b off, A = some ⟨b, off, none⟩ ∧ b < B ∧ w.cell? ⟨b, off + k * 5, none⟩ = some (.int .i64 l[k].op) ∧ w.cell? ⟨b, off + k * 5 + 1, none⟩ = some (.int .i64 l[k].a) ∧ w.cell? ⟨b, off + k * 5 + 2, none⟩ = some (.int .i64 l[k].b) ∧
      w.cell? ⟨b, off + k * 5 + 3, none⟩ = some (.int .i64 l[k].c) ∧ w.cell? ⟨b, off + k * 5 + 4, none⟩ = some (.int .u64 l[k].imm) := by
  have hx := List.getElem?_eq_getElem hk
  have g := fun j hj => flat_at icell_len l k _ hx j hj
  obtain ⟨b, off, e, hb, h0⟩ := h _ _ (g 0 (by omega))
  obtain ⟨b1, o1, e1, _, h1⟩ := h _ _ (g 1 (by omega))
  obtain ⟨b2, o2, e2, _, h2⟩ := h _ _ (g 2 (by omega))
  obtain ⟨b3, o3, e3, _, h3⟩ := h _ _ (g 3 (by omega))
  obtain ⟨b4, o4, e4, _, h4⟩ := h _ _ (g 4 (by omega))
  subst e
  injection e1 with e1; injection e1 with x1 y1; subst x1 y1
  injection e2 with e2; injection e2 with x2 y2; subst x2 y2
  injection e3 with e3; injection e3 with x3 y3; subst x3 y3
  injection e4 with e4; injection e4 with x4 y4; subst x4 y4
  exact ⟨b, off, rfl, hb, h0, h1, h2, h3, h4⟩
/-- The head at place k, and where it stands. -/
theorem hd_at {l : List Hd} {k : Nat} (h : Sees w B A (hcells l)) (hk : k < l.length) :
    ∃ b off, A = some ⟨b, off, none⟩ ∧ b < B ∧ w.cell? ⟨b, off + k * 3, none⟩ = some (.int .i64 l[k].p) ∧ w.cell? ⟨b, off + k * 3 + 1, none⟩ = some (.slice l[k].a1 l[k].n1 l[k].c1) ∧ w.cell? ⟨b, off + k * 3 + 2, none⟩ = some (.slice l[k].a2 l[k].n2 l[k].c2) := by
  have hx := List.getElem?_eq_getElem hk
  have g := fun j hj => flat_at hcell_len l k _ hx j hj
  obtain ⟨b, off, e, hb, h0⟩ := h _ _ (g 0 (by omega))
  obtain ⟨b1, o1, e1, _, h1⟩ := h _ _ (g 1 (by omega))
  obtain ⟨b2, o2, e2, _, h2⟩ := h _ _ (g 2 (by omega))
  subst e
  injection e1 with e1; injection e1 with x1 y1; subst x1 y1
  injection e2 with e2; injection e2 with x2 y2; subst x2 y2
  exact ⟨b, off, rfl, hb, h0, h1, h2⟩
/-- Function k of a program: where its head stands, and that it is it. -/
theorem fn_at {k : Nat} (H : PgAt w lo B A n c hs F) (hk : k < n) :
    ∃ (b off : Nat) (P : Int) (A1 : Option Addr) (n1 c1 : Nat) (A2 : Option Addr) (n2 c2 : Nat) (f : Fn), A = some ⟨b, off, none⟩ ∧ b < B ∧ F[k]? = some f ∧ hs[k]? = some ⟨P, A1, n1, c1, A2, n2, c2⟩ ∧ HdAt w lo B ⟨P, A1, n1, c1, A2, n2, c2⟩ f ∧
      w.cell? ⟨b, off + k * 3, none⟩ = some (.int .i64 P) ∧ w.cell? ⟨b, off + k * 3 + 1, none⟩ = some (.slice A1 n1 c1) ∧ w.cell? ⟨b, off + k * 3 + 2, none⟩ = some (.slice A2 n2 c2) := by
  have h1 : k < F.length := by rw [H.len]; exact hk
  have h2 : k < hs.length := by rw [H.hd.len]; exact h1
  obtain ⟨b, off, e, hb, c0, c1, c2⟩ := hd_at H.see h2
  exact ⟨b, off, _, _, _, _, _, _, _, F[k], e, hb, List.getElem?_eq_getElem h1, List.getElem?_eq_getElem h2, H.hd.at_ k _ _ (List.getElem?_eq_getElem h2) (List.getElem?_eq_getElem h1), c0, c1, c2⟩
end
theorem cap_le {A : Option Addr} {n c : Nat} (h : Cap A n c) : n ≤ 4611686018427387904 := by have := h.2.1; have := h.2.2; omega
theorem drewN_below {B : Nat} {a w : World} (h : Below B a w) (k : Nat) : Below B a (w.drewN k) := below_draws h k
/-- A truth value; what was in memory is as it was. -/
def BoolBelow (b : Bool) (w : World) (e : Ending) (w' : World) : Prop := e = .returned (.bool b) ∧ Below w.heap.size w w'
theorem heap_at (w : World) (o : Obj) {k : Nat} (h : k = w.heap.size) : (w.alloc o).heap[k]? = some o := by subst h; exact heap_alloc_new w o
end Go.Proofs.Ythaabgiefpfeaaa
end

section
/-
  Lists of ints in memory: a slice that can be read (Lst), a list that a call hands back (OutPost), a loop that appends (IntRel). No function of the program is named here.
-/
namespace Go.Proofs.Ythaabgiefpfeaaa
open Go.RowKit

/-- What a function that hands back a list leaves. -/
def OutPost (l : List Int) (w : World) (e : Ending) (w' : World) : Prop :=
  ∃ (A : Option Addr) (c : Nat), e = .returned (.slice A l.length c) ∧ w'.ownsRow w.heap.size 3 1 (.slice A l.length c) l.length (cellsI l) ∧ Below w.heap.size w w'

/-- What the loops keep: the list so far. -/
def IntRel (w : World) (l : List Int) (v : Value) (wr : World) : Prop := wr.ownsRow w.heap.size 3 1 v l.length (cellsI l) ∧ Below w.heap.size w wr
theorem IntRel.step {w wr w2 : World} {l : List Int} {v v' : Value} {x : Int} {o : Obj} (h : Hid (IntRel w l v wr)) (ho : w2.ownsRow w.heap.size 3 1 v' (l.length + 1) (cellsI l ++ [.int .i64 x])) (hg : (wr.alloc o).grownBy w2 v.ownBlock) : IntRel w (l ++ [x]) v' w2 := by
  refine ⟨?_, below_append (h.out.2.alloc h.out.2.size o) (h.out.1.alloc o) (Nat.le_refl _) hg (Nat.le_trans h.out.2.size (by simp))⟩
  rw [cellsI_append, List.length_append]
  exact ho
theorem IntRel.start (w w' : World) (hb : Below w.heap.size w w') : IntRel w [] (.slice none 0 0) w' := ⟨⟨by simp [cellsI], .inl ⟨rfl, rfl⟩⟩, hb⟩
theorem IntRel.out {w w' : World} {l : List Int} {v : Value} (h : IntRel w l v w') : ∃ A c, v = .slice A l.length c ∧ (A = none → c = 0) ∧ OutPost l w (.returned (.slice A l.length c)) w' := by
  obtain ⟨A, c, rfl, hA, _⟩ := own_form h.1
  exact ⟨A, c, rfl, hA, A, c, rfl, h.1, h.2⟩

theorem infoI : (Try.prog.info? 3).map (fun i => (i.zero, i.size, i.bytes)) = some (some (.int .i64 0), 1, 8) := by kernel_rfl
theorem one_cell (x : Int) : ∀ u ∈ [Value.int .i64 x], u.oneCell' = true := by
  intro u hu
  simp at hu
  subst hu
  rfl
/-- A slice of ints that can be read: at A stand the n ints zs. -/
structure Lst (w : World) (A : Option Addr) (n : Nat) (zs : List Int) : Prop where
  len : zs.length = n
  le : n ≤ 9223372036854775807
  see : Sees w w.heap.size A (cellsI zs)
  rng : ∀ z ∈ zs, -9223372036854775808 ≤ z ∧ z ≤ 9223372036854775807
theorem Lst.below {w w' : World} {A : Option Addr} {n : Nat} {zs : List Int} (h : Lst w A n zs) (hb : Below w.heap.size w w') : Lst w' A n zs := ⟨h.len, h.le, (h.see.below hb).more hb.size, h.rng⟩
theorem own_lower {w : World} {base base' : Nat} {e : TypeId} {size n : Nat} {v : Value} {xs : List Value} (h : w.ownsRow base e size v n xs) (hb : base' ≤ base) : w.ownsRow base' e size v n xs := by
  refine ⟨h.1, ?_⟩
  rcases h.2 with h2 | ⟨g, cap, cur, hv, hg, hh, hr⟩
  · exact .inl h2
  · exact .inr ⟨g, cap, cur, hv, by omega, hh, hr⟩
theorem OutPost.lift {l : List Int} {w w1 w' : World} {e : Ending} (h : OutPost l w1 e w') (hb : Below w.heap.size w w1) : OutPost l w e w' := by
  obtain ⟨A, c, he, ho, hb'⟩ := h
  exact ⟨A, c, he, own_lower ho hb.size, below_call hb hb'⟩
theorem IntRel.call {w wr w2 : World} {l : List Int} {v : Value} (h : IntRel w l v wr) (hb : Below wr.heap.size wr w2) : IntRel w l v w2 := ⟨own_below h.1 hb, below_call h.2 hb⟩
theorem IntRel.done {w wr : World} {l : List Int} {v : Value} (h : IntRel w l v wr) : OutPost l w (.returned v) wr := by
  obtain ⟨A, c, rfl, -, -⟩ := own_form h.1
  exact ⟨A, c, rfl, h.1, h.2⟩
end Go.Proofs.Ythaabgiefpfeaaa
end
