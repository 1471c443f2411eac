import Derived.Test.YtlcmcmocjbeocaaGreatDoorMBitsm
import Derived.Laws.AppendOwn
import Derived.Laws.StructEq
import Derived.WalkKit
import Derived.Deep.DeepCutAuto
import Derived.Deep.QuietTactic
import Derived.BigQuiet
import Derived.Outline
set_option linter.unusedVariables false
set_option linter.unusedSimpArgs false
section
/-
  Programs in memory: rows of instructions, rows of functions, what lies behind them; kept over what a call leaves. No function of the program is named here.
-/
namespace Go.Proofs.YtlcmcmocjbeocaaGreatDoor
open Go.RowKit

section
variable {α : Type} {f : α → List Value} {m : Nat}
theorem flat_len (hm : ∀ a, (f a).length = m) (l : List α) : (l.flatMap f).length = l.length * m := by
  induction l with
  | nil => simp
  | cons b r ih => simp only [List.flatMap_cons, List.length_append, List.length_cons, ih, hm b]; rw [Nat.add_mul]; omega
theorem flat_at (hm : ∀ a, (f a).length = m) (l : List α) (k : Nat) (a : α) (h : l[k]? = some a) (j : Nat) (hj : j < m) : (l.flatMap f)[k * m + j]? = (f a)[j]? := by
  induction l generalizing k with
  | nil => simp at h
  | cons b r ih =>
    rw [List.flatMap_cons]
    cases k with
    | zero =>
      simp at h; subst h
      rw [Nat.zero_mul, Nat.zero_add, List.getElem?_append_left (by rw [hm]; exact hj)]
    | succ k =>
      rw [List.getElem?_append_right (by rw [hm, Nat.add_mul]; omega), hm b, show (k + 1) * m + j - m = k * m + j by rw [Nat.add_mul]; omega]
      exact ih k (by simpa using h)
theorem flat_set (hm : ∀ a, (f a).length = m) (l : List α) (k : Nat) (a b : α) (h : l[k]? = some a) (j : Nat) (hj : j < m) (v : Value) (hb : f b = (f a).set j v) : (l.flatMap f).set (k * m + j) v = (l.set k b).flatMap f := by
  induction l generalizing k with
  | nil => simp at h
  | cons c r ih =>
    rw [List.flatMap_cons]
    cases k with
    | zero =>
      simp at h; subst h
      rw [Nat.zero_mul, Nat.zero_add, List.set_append_left _ _ (by rw [hm]; exact hj), List.set_cons_zero, List.flatMap_cons, hb]
    | succ k =>
      rw [List.set_append_right _ _ (by rw [hm, Nat.add_mul]; omega), hm c, show (k + 1) * m + j - m = k * m + j by rw [Nat.add_mul]; omega, List.set_cons_succ, List.flatMap_cons, ih k (by simpa using h)]
end

/-- An instruction, a function, a program by value. -/
abbrev iv (o a b c m : Int) : Value := .agg #[.int .i64 o, .int .i64 a, .int .i64 b, .int .i64 c, .int .u64 m]
abbrev fv (P : Int) (A1 : Option Addr) (n1 c1 : Nat) (A2 : Option Addr) (n2 c2 : Nat) : Value := .agg #[.int .i64 P, .slice A1 n1 c1, .slice A2 n2 c2]
abbrev gv (A : Option Addr) (n c : Nat) : Value := .agg #[.slice A n c]
/-- The cells of a list of instructions. -/
def icell (x : Ins) : List Value := [.int .i64 x.op, .int .i64 x.a, .int .i64 x.b, .int .i64 x.c, .int .u64 x.imm]
def icells (l : List Ins) : List Value := l.flatMap icell
theorem icell_len (x : Ins) : (icell x).length = 5 := rfl
theorem icells_length (l : List Ins) : (icells l).length = l.length * 5 := flat_len icell_len l
theorem icells_append (l m : List Ins) : icells (l ++ m) = icells l ++ icells m := by simp [icells]
theorem icells_one (x : Ins) : icells [x] = [.int .i64 x.op, .int .i64 x.a, .int .i64 x.b, .int .i64 x.c, .int .u64 x.imm] := rfl
theorem icells_oneCell (l : List Ins) : ∀ v ∈ icells l, v.oneCell' = true := by
  intro v hv
  simp only [icells, List.mem_flatMap] at hv
  obtain ⟨x, _, hv⟩ := hv
  simp [icell] at hv
  rcases hv with rfl | rfl | rfl | rfl | rfl <;> rfl
/-- A function's head: its parameters and its two slices. -/
structure Hd where
  p : Int
  a1 : Option Addr
  n1 : Nat
  c1 : Nat
  a2 : Option Addr
  n2 : Nat
  c2 : Nat
def hcell (h : Hd) : List Value := [.int .i64 h.p, .slice h.a1 h.n1 h.c1, .slice h.a2 h.n2 h.c2]
def hcells (l : List Hd) : List Value := l.flatMap hcell
theorem hcell_len (h : Hd) : (hcell h).length = 3 := rfl
theorem hcells_length (l : List Hd) : (hcells l).length = l.length * 3 := flat_len hcell_len l
theorem hcells_append (l m : List Hd) : hcells (l ++ m) = hcells l ++ hcells m := by simp [hcells]
theorem hcells_oneCell (l : List Hd) : ∀ v ∈ hcells l, v.oneCell' = true := by
  intro v hv
  simp only [hcells, List.mem_flatMap] at hv
  obtain ⟨x, _, hv⟩ := hv
  simp [hcell] at hv
  rcases hv with rfl | rfl | rfl <;> rfl

/-- An address is nil or lies from block lo on. -/
def Far (lo : Nat) (A : Option Addr) : Prop := ∀ a, A = some a → lo ≤ a.block
theorem Far.zero (A : Option Addr) : Far 0 A := fun _ _ => Nat.zero_le _
theorem Far.more {lo lo' : Nat} {A : Option Addr} (h : Far lo A) (hl : lo' ≤ lo) : Far lo' A := fun a e => Nat.le_trans hl (h a e)
theorem Far.none (lo : Nat) : Far lo none := fun _ e => by cases e
/-- What is seen, where all from lo on to B has been kept. -/
theorem Sees.keepF {w w' : World} {lo B : Nat} {A : Option Addr} {xs : List Value} (h : Sees w B A xs) (hf : Far lo A) (hk : ∀ p : Addr, lo ≤ p.block → p.block < B → w'.cell? p = w.cell? p) : Sees w' B A xs := fun k u hu => by
  obtain ⟨b, off, e, hb, hc⟩ := h k u hu
  have hl : lo ≤ b := hf _ e
  exact ⟨b, off, e, hb, (hk ⟨b, off + k, .none⟩ hl hb).trans hc⟩

/-- A slice's own bounds. -/
def Cap (A : Option Addr) (n c : Nat) : Prop := (A = none → c = 0) ∧ n ≤ c ∧ n ≤ 8796093022208
/-- The head h is function f: its slices lie from block lo on, below B. -/
structure HdAt (w : World) (lo B : Nat) (h : Hd) (f : Fn) : Prop where
  p : h.p = f.params
  l1 : f.slots.length = h.n1
  l2 : f.code.length = h.n2
  k1 : Cap h.a1 h.n1 h.c1
  k2 : Cap h.a2 h.n2 h.c2
  f1 : Far lo h.a1
  f2 : Far lo h.a2
  s1 : Sees w B h.a1 (pcells f.slots)
  s2 : Sees w B h.a2 (icells f.code)
/-- The heads hs are the program F. -/
structure Hds (w : World) (lo B : Nat) (hs : List Hd) (F : Pg) : Prop where
  len : hs.length = F.length
  at_ : ∀ (k : Nat) (h : Hd) (f : Fn), hs[k]? = some h → F[k]? = some f → HdAt w lo B h f
/-- At the slice A, n, c stands the program F. -/
structure PgAt (w : World) (lo B : Nat) (A : Option Addr) (n c : Nat) (hs : List Hd) (F : Pg) : Prop where
  len : F.length = n
  cap : Cap A n c
  far : Far lo A
  see : Sees w B A (hcells hs)
  hd : Hds w lo B hs F

section
variable {w w' : World} {lo lo' B B' : Nat} {h : Hd} {f : Fn} {hs : List Hd} {F : Pg} {A : Option Addr} {n c : Nat}
theorem HdAt.keep (H : HdAt w lo B h f) (hk : ∀ p : Addr, lo ≤ p.block → p.block < B → w'.cell? p = w.cell? p) : HdAt w' lo B h f := ⟨H.p, H.l1, H.l2, H.k1, H.k2, H.f1, H.f2, H.s1.keepF H.f1 hk, H.s2.keepF H.f2 hk⟩
theorem HdAt.more (H : HdAt w lo B h f) (hB : B ≤ B') (hl : lo' ≤ lo) : HdAt w lo' B' h f := ⟨H.p, H.l1, H.l2, H.k1, H.k2, H.f1.more hl, H.f2.more hl, H.s1.more hB, H.s2.more hB⟩
theorem Hds.keep (H : Hds w lo B hs F) (hk : ∀ p : Addr, lo ≤ p.block → p.block < B → w'.cell? p = w.cell? p) : Hds w' lo B hs F := ⟨H.len, fun k h f e1 e2 => (H.at_ k h f e1 e2).keep hk⟩
theorem Hds.more (H : Hds w lo B hs F) (hB : B ≤ B') (hl : lo' ≤ lo) : Hds w lo' B' hs F := ⟨H.len, fun k h f e1 e2 => (H.at_ k h f e1 e2).more hB hl⟩
theorem PgAt.keep (H : PgAt w lo B A n c hs F) (hk : ∀ p : Addr, lo ≤ p.block → p.block < B → w'.cell? p = w.cell? p) : PgAt w' lo B A n c hs F := ⟨H.len, H.cap, H.far, H.see.keepF H.far hk, H.hd.keep hk⟩
theorem PgAt.more (H : PgAt w lo B A n c hs F) (hB : B ≤ B') (hl : lo' ≤ lo) : PgAt w lo' B' A n c hs F := ⟨H.len, H.cap, H.far.more hl, H.see.more hB, H.hd.more hB hl⟩
theorem PgAt.below (H : PgAt w lo B A n c hs F) (hb : Below B w w') : PgAt w' lo B A n c hs F := H.keep fun _ _ hp => hb.cell hp
theorem PgAt.call (H : PgAt w lo w.heap.size A n c hs F) (hb : Below w.heap.size w w') : PgAt w' lo w'.heap.size A n c hs F := (H.below hb).more hb.size (Nat.le_refl _)
theorem PgAt.drewN (H : PgAt w lo B A n c hs F) (k : Nat) : PgAt (w.drewN k) lo B A n c hs F := H.keep fun _ _ _ => rfl
theorem PgAt.alloc (H : PgAt w lo w.heap.size A n c hs F) (o : Obj) : PgAt (w.alloc o) lo (w.alloc o).heap.size A n c hs F := H.call (below1 w o)
theorem PgAt.grown {g : Nat} (H : PgAt w lo B A n c hs F) (hg : w.grownBy w' (some g)) (hlo : g < lo) (hB : B ≤ w.heap.size) : PgAt w' lo B A n c hs F :=
  H.keep fun p h1 h2 => World.cell?_of_block (hg.block p.block (by omega) (fun e => by injection e with e; omega))
theorem HdAt.below (H : HdAt w lo B h f) (hb : Below B w w') : HdAt w' lo B h f := H.keep fun _ _ hp => hb.cell hp
theorem HdAt.grown {g : Nat} (H : HdAt w lo B h f) (hg : w.grownBy w' (some g)) (hlo : g < lo) (hB : B ≤ w.heap.size) : HdAt w' lo B h f :=
  H.keep fun p h1 h2 => World.cell?_of_block (hg.block p.block (by omega) (fun e => by injection e with e; omega))

/-- The instruction at place k, and where it stands. -/
theorem ins_at {l : List Ins} {k : Nat} (h : Sees w B A (icells l)) (hk : k < l.length) :
    ∃ b off, A = some ⟨b, off, none⟩ ∧ b < B ∧ w.cell? ⟨b, off + k * 5, none⟩ = some (.int .i64 l[k].op) ∧ w.cell? ⟨b, off + k * 5 + 1, none⟩ = some (.int .i64 l[k].a) ∧ w.cell? ⟨b, off + k * 5 + 2, none⟩ = some (.int .i64 l[k].b) ∧
      w.cell? ⟨b, off + k * 5 + 3, none⟩ = some (.int .i64 l[k].c) ∧ w.cell? ⟨b, off + k * 5 + 4, none⟩ = some (.int .u64 l[k].imm) := by
  have hx := List.getElem?_eq_getElem hk
  have g := fun j hj => flat_at icell_len l k _ hx j hj
  obtain ⟨b, off, e, hb, h0⟩ := h _ _ (g 0 (by omega))
  obtain ⟨b1, o1, e1, _, h1⟩ := h _ _ (g 1 (by omega))
  obtain ⟨b2, o2, e2, _, h2⟩ := h _ _ (g 2 (by omega))
  obtain ⟨b3, o3, e3, _, h3⟩ := h _ _ (g 3 (by omega))
  obtain ⟨b4, o4, e4, _, h4⟩ := h _ _ (g 4 (by omega))
  subst e
  injection e1 with e1; injection e1 with x1 y1; subst x1 y1
  injection e2 with e2; injection e2 with x2 y2; subst x2 y2
  injection e3 with e3; injection e3 with x3 y3; subst x3 y3
  injection e4 with e4; injection e4 with x4 y4; subst x4 y4
  exact ⟨b, off, rfl, hb, h0, h1, h2, h3, h4⟩
/-- The head at place k, and where it stands. -/
theorem hd_at {l : List Hd} {k : Nat} (h : Sees w B A (hcells l)) (hk : k < l.length) :
    ∃ b off, A = some ⟨b, off, none⟩ ∧ b < B ∧ w.cell? ⟨b, off + k * 3, none⟩ = some (.int .i64 l[k].p) ∧ w.cell? ⟨b, off + k * 3 + 1, none⟩ = some (.slice l[k].a1 l[k].n1 l[k].c1) ∧ w.cell? ⟨b, off + k * 3 + 2, none⟩ = some (.slice l[k].a2 l[k].n2 l[k].c2) := by
  have hx := List.getElem?_eq_getElem hk
  have g := fun j hj => flat_at hcell_len l k _ hx j hj
  obtain ⟨b, off, e, hb, h0⟩ := h _ _ (g 0 (by omega))
  obtain ⟨b1, o1, e1, _, h1⟩ := h _ _ (g 1 (by omega))
  obtain ⟨b2, o2, e2, _, h2⟩ := h _ _ (g 2 (by omega))
  subst e
  injection e1 with e1; injection e1 with x1 y1; subst x1 y1
  injection e2 with e2; injection e2 with x2 y2; subst x2 y2
  exact ⟨b, off, rfl, hb, h0, h1, h2⟩
/-- Function k of a program: where its head stands, and that it is it. -/
theorem fn_at {k : Nat} (H : PgAt w lo B A n c hs F) (hk : k < n) :
    ∃ (b off : Nat) (P : Int) (A1 : Option Addr) (n1 c1 : Nat) (A2 : Option Addr) (n2 c2 : Nat) (f : Fn), A = some ⟨b, off, none⟩ ∧ b < B ∧ F[k]? = some f ∧ hs[k]? = some ⟨P, A1, n1, c1, A2, n2, c2⟩ ∧ HdAt w lo B ⟨P, A1, n1, c1, A2, n2, c2⟩ f ∧
      w.cell? ⟨b, off + k * 3, none⟩ = some (.int .i64 P) ∧ w.cell? ⟨b, off + k * 3 + 1, none⟩ = some (.slice A1 n1 c1) ∧ w.cell? ⟨b, off + k * 3 + 2, none⟩ = some (.slice A2 n2 c2) := by
  have h1 : k < F.length := by rw [H.len]; exact hk
  have h2 : k < hs.length := by rw [H.hd.len]; exact h1
  obtain ⟨b, off, e, hb, c0, c1, c2⟩ := hd_at H.see h2
  exact ⟨b, off, _, _, _, _, _, _, _, F[k], e, hb, List.getElem?_eq_getElem h1, List.getElem?_eq_getElem h2, H.hd.at_ k _ _ (List.getElem?_eq_getElem h2) (List.getElem?_eq_getElem h1), c0, c1, c2⟩
end
theorem cap_le {A : Option Addr} {n c : Nat} (h : Cap A n c) : n ≤ 4611686018427387904 := by have := h.2.1; have := h.2.2; omega
theorem drewN_below {B : Nat} {a w : World} (h : Below B a w) (k : Nat) : Below B a (w.drewN k) := below_draws h k
/-- A truth value; what was in memory is as it was. -/
def BoolBelow (b : Bool) (w : World) (e : Ending) (w' : World) : Prop := e = .returned (.bool b) ∧ Below w.heap.size w w'
theorem heap_at (w : World) (o : Obj) {k : Nat} (h : k = w.heap.size) : (w.alloc o).heap[k]? = some o := by subst h; exact heap_alloc_new w o
end Go.Proofs.YtlcmcmocjbeocaaGreatDoor
end

section
/-
  Appends whose source is told by 'Sees' (nil let in), for elements of any size; rows of instructions that a loop fills. No function of the program is named here.
-/
namespace Go.Proofs.YtlcmcmocjbeocaaGreatDoor
open Go.RowKit

/-- append(v, x...), v nil or a row of the call's own, x any slice that 'Sees' tells. -/
theorem wpList_append_seesN {P : Program} {w : World} {ops : Array Oper} {rest : List Oper} {o : Oper} {a : Act} {Q : Exit → Act → World → Prop} (hgd : o.guard = none) (s x : Operand) (t : TypeId)
    (ho : o.op = .call { callee := .builtin .append, args := #[s, x], argTypes := #[t, t] })
    (base : Nat) (e : TypeId) (i : TypeInfo) (z : Value) (size bytes : Nat) (ht : P.underlying t = some (.slice e)) (hi : P.info? e = some i) (hz : i.zero = some z)
    (hsize : i.size = size) (hby : i.bytes = bytes) (hzs : z.cells.size = size) (hsz : 0 < size)
    (v : Value) (n : Nat) (xs : List Value) (hs : a.eval s = v) (hown : w.ownsRow base e size v n xs)
    (B : Nat) (A : Option Addr) (m c : Nat) (news : List Value) (hx : a.eval x = .slice A m c) (hA : Hid (A = none → c = 0)) (hl : Hid (news.length = m * size)) (hsee : Hid (Sees w B A news)) (hmc : Hid (m ≤ c)) (h1 : ∀ u ∈ news, u.oneCell' = true)
    (h63 : n + m ≤ maxLen) (hbytes : (n + m) * bytes ≤ 140737488355328) (hbase : base ≤ w.heap.size)
    (h : ∀ v' w', w'.ownsRow base e size v' (n + m) (xs ++ news) → w.grownBy w' v.ownBlock → wpList P ops Q rest (a.put o.dst v') w') : wpList P ops Q (o :: rest) a w := by
  have hl := hl.out
  have hmc := hmc.out
  rcases A with _ | ad
  · have hc := hA.out rfl
    have hm : m = 0 := by omega
    subst hm hc
    have hn : news = [] := List.eq_nil_of_length_eq_zero (by omega)
    subst hn
    exact wpList_append_own_none hgd s x t ho base e i size ht hi v n xs hs hown hx (h v w (by simpa using hown) (World.grownBy.refl w _))
  · refine wpList_append_own w hgd s x t ho base e i z size bytes ht hi hz hsize hby hzs hsz v n xs hs hown ad m c news hx hl (fun j u hu => ?_) h1 h63 hbytes hbase (fun v' w' h2 h3 _ => h v' w' h2 h3)
    rcases Nat.lt_or_ge 0 news.length with hp | hp
    · obtain ⟨ad', he, hc⟩ := hsee.out.src hp
      injection he with he
      subst he
      exact hc j u hu
    · have : news = [] := List.eq_nil_of_length_eq_zero (by omega)
      subst this
      simp at hu

section
variable {w w' : World} {base : Nat} {e : TypeId} {size n : Nat} {v : Value} {xs : List Value}
/-- An owned row's value, as a slice with its bounds, and what stands there. -/
theorem own_seen (h : w.ownsRow base e size v n xs) : ∃ A c, v = .slice A n c ∧ (A = none → c = 0) ∧ n ≤ c ∧ Far base A ∧ Sees w w.heap.size A xs := by
  obtain ⟨A, c, rfl, hA, hm⟩ := own_form h
  refine ⟨A, c, rfl, hA, ?_, ?_, Sees.ownN h⟩
  · rcases h.2 with ⟨he, h0⟩ | ⟨g, cap, cur, he, hg, hh, hc, _⟩
    · omega
    · injection he with _ _ hcc; omega
  · intro a ha
    subst ha
    rcases h.2 with ⟨he, h0⟩ | ⟨g, cap, cur, he, hg, hh, hc, _⟩
    · injection he with he; cases he
    · injection he with he
      injection he with he
      subst he
      exact hg
theorem own_far_block (h : w.ownsRow base e size v n xs) {g : Nat} (hg : g < base) : some g ≠ v.ownBlock := fun e => by
  have := (h.lt g e.symm).1
  omega
end

/-- The same, of the operation by itself. -/
theorem wp_append_seesN {P : Program} {w : World} {o : Oper} {a : Act} {K : Act → World → Prop} {Q : Exit → Act → World → Prop} (s x : Operand) (t : TypeId)
    (ho : o.op = .call { callee := .builtin .append, args := #[s, x], argTypes := #[t, t] })
    (base : Nat) (e : TypeId) (i : TypeInfo) (z : Value) (size bytes : Nat) (ht : P.underlying t = some (.slice e)) (hi : P.info? e = some i) (hz : i.zero = some z)
    (hsize : i.size = size) (hby : i.bytes = bytes) (hzs : z.cells.size = size) (hsz : 0 < size)
    (v : Value) (n : Nat) (xs : List Value) (hs : a.eval s = v) (hown : w.ownsRow base e size v n xs)
    (B : Nat) (A : Option Addr) (m c : Nat) (news : List Value) (hx : a.eval x = .slice A m c) (hA : Hid (A = none → c = 0)) (hl : Hid (news.length = m * size)) (hsee : Hid (Sees w B A news)) (hmc : Hid (m ≤ c)) (h1 : ∀ u ∈ news, u.oneCell' = true)
    (h63 : n + m ≤ maxLen) (hbytes : (n + m) * bytes ≤ 140737488355328) (hbase : base ≤ w.heap.size)
    (h : ∀ v' w', w'.ownsRow base e size v' (n + m) (xs ++ news) → w.grownBy w' v.ownBlock → K (a.put o.dst v') w') : o.wp P a w K Q := by
  have hl := hl.out
  have hmc := hmc.out
  rcases A with _ | ad
  · have hc := hA.out rfl
    have hm : m = 0 := by omega
    subst hm hc
    have hn : news = [] := List.eq_nil_of_length_eq_zero (by omega)
    subst hn
    have hrun := run_append_owned_none (P := P) (w := w) base t o.type e i size ht hi v n xs hown
    unfold Oper.wp
    simp [execOp, ho, resolve, invoke, builtin, hs, hx, hrun, Result.andThen]
    exact h v w (by simpa using hown) (World.grownBy.refl w _)
  · refine wp_append_own w s x t ho base e i z size bytes ht hi hz hsize hby hzs hsz v n xs hs hown ad m c news hx hl (fun j u hu => ?_) h1 h63 hbytes hbase (fun v' w' h2 h3 _ => h v' w' h2 h3)
    rcases Nat.lt_or_ge 0 news.length with hp | hp
    · obtain ⟨ad', he, hc⟩ := hsee.out.src hp
      injection he with he
      subst he
      exact hc j u hu
    · have : news = [] := List.eq_nil_of_length_eq_zero (by omega)
      subst this
      simp at hu
end Go.Proofs.YtlcmcmocjbeocaaGreatDoor
end

section
/-
  Bytes as numbers; bytes at a slice; what a call on a drawn list leaves. No function of the program is named here.
-/
namespace Go.Proofs.YtlcmcmocjbeocaaGreatDoor
open Go.RowKit

/-- Bytes. -/
def Byt (l : List Int) : Prop := ∀ z ∈ l, 0 ≤ z ∧ z ≤ 255
theorem Byt.nil_ : Byt [] := fun z h => by cases h
theorem Byt.one {z : Int} (h0 : 0 ≤ z) (h1 : z ≤ 255) : Byt [z] := fun y h => by simp at h; subst h; exact ⟨h0, h1⟩
theorem Byt.cons {z : Int} {l : List Int} (h0 : 0 ≤ z) (h1 : z ≤ 255) (h : Byt l) : Byt (z :: l) := fun y hy => by
  rcases List.mem_cons.1 hy with rfl | hy
  · exact ⟨h0, h1⟩
  · exact h y hy
theorem Byt.app {l m : List Int} (h : Byt l) (h' : Byt m) : Byt (l ++ m) := fun z hz => by
  rcases List.mem_append.1 hz with h1 | h1
  · exact h z h1
  · exact h' z h1
theorem Byt.left {l m : List Int} (h : Byt (l ++ m)) : Byt l := fun z hz => h z (List.mem_append_left _ hz)
theorem Byt.right {l m : List Int} (h : Byt (l ++ m)) : Byt m := fun z hz => h z (List.mem_append_right _ hz)
theorem Byt.take {l : List Int} (h : Byt l) (n : Nat) : Byt (l.take n) := fun z hz => h z (List.mem_of_mem_take hz)
theorem Byt.drop {l : List Int} (h : Byt l) (n : Nat) : Byt (l.drop n) := fun z hz => h z (List.mem_of_mem_drop hz)
theorem Byt.flat {α : Type} {f : α → List Int} {l : List α} (h : ∀ a ∈ l, Byt (f a)) : Byt (l.flatMap f) := fun z hz => by
  obtain ⟨a, ha, hz⟩ := List.mem_flatMap.1 hz
  exact h a ha z hz
/-- Bytes at a slice, below block B. -/
structure BsAt (w : World) (B : Nat) (A : Option Addr) (n c : Nat) (zs : List Int) : Prop where
  len : zs.length = n
  nc : n ≤ c
  nil_ : A = none → c = 0
  cm : c ≤ 9223372036854775807
  byt : Byt zs
  see : Sees w B A (cellsU8 zs)
section
variable {w w' : World} {B B' n c : Nat} {A : Option Addr} {zs : List Int}
theorem BsAt.below (h : BsAt w B A n c zs) (hb : Below B w w') : BsAt w' B A n c zs := ⟨h.len, h.nc, h.nil_, h.cm, h.byt, h.see.below hb⟩
theorem BsAt.more (h : BsAt w B A n c zs) (hB : B ≤ B') : BsAt w B' A n c zs := ⟨h.len, h.nc, h.nil_, h.cm, h.byt, h.see.more hB⟩
theorem BsAt.call (h : BsAt w w.heap.size A n c zs) (hb : Below w.heap.size w w') : BsAt w' w'.heap.size A n c zs := (h.below hb).more hb.size
theorem BsAt.keep (h : BsAt w B A n c zs) (hk : ∀ p : Addr, p.block < B → w'.cell? p = w.cell? p) : BsAt w' B A n c zs := ⟨h.len, h.nc, h.nil_, h.cm, h.byt, h.see.keep hk⟩
theorem BsAt.own {base : Nat} {t : TypeId} (h : w.ownsRow base t 1 (.slice A n c) n (cellsU8 zs)) (hz : Byt zs) : BsAt w w.heap.size A n c zs := by
  obtain ⟨A', c', e, hA, hnc, _, hs⟩ := own_seen h
  obtain ⟨A'', c'', e', _, hcm⟩ := own_form h
  injection e with e1 _ e3
  subst e1 e3
  have hc : c ≤ maxLen := by
    rcases h.2 with ⟨he, h0⟩ | ⟨g, cap, cur, he, _, _, _, hm, _⟩
    · injection he with _ _ he; subst he; omega
    · injection he with _ _ he; omega
  exact ⟨by have := own_len h; simpa [cellsU8] using this, hnc, hA, by unfold maxLen at hc; exact hc, hz, hs⟩
/-- The first k bytes. -/
theorem BsAt.take (h : BsAt w B A n c zs) {k : Nat} (hk : k ≤ n) : BsAt w B A k c (zs.take k) := ⟨by rw [List.length_take, h.len]; omega, by have := h.nc; omega, h.nil_, h.cm, h.byt.take k, by have := h.see.take k; rwa [take_cells] at this⟩
end

theorem zero_pg (w : World) (lo B : Nat) : PgAt w lo B none 0 0 [] [] := ⟨rfl, ⟨fun _ => rfl, Nat.le_refl _, Nat.zero_le _⟩, Far.none _, Sees.nil_ _ _ _, ⟨rfl, fun k h f e => by simp at e⟩⟩
theorem below_inner {w w' w'' : World} {D : Nat} (h : Below w.heap.size w w') (hG : w'.grownBy w'' (some D)) (hD : w.heap.size ≤ D) : Below w.heap.size w w'' := h.grown hG h.size fun k hk => by injection hk with hk; omega
end Go.Proofs.YtlcmcmocjbeocaaGreatDoor
end

section
/-
  Plain mathematics of the bytes of a source program: what is written, what is read; reading inverts writing, and what is read is what was written. No function of the program is named here.
-/
namespace Go.Proofs.YtlcmcmocjbeocaaGreatDoor
open Go.RowKit

theorem Byt.digs (v : Nat) : Byt (digsI v) := by
  induction v using Nat.strongRecOn with
  | _ v ih =>
    rcases Nat.lt_or_ge v 128 with h | h
    · rw [digsI_small h]
      exact Byt.one (by omega) (by omega)
    · rw [digsI_great h]
      exact Byt.cons (by omega) (by omega) (ih _ (by omega))

/-- The bytes of an operand, if it is used. -/
def optY (u : Bool) (n : Int) : List Int := if u then digsI n.toNat else []
theorem optY_on (n : Int) : optY true n = digsI n.toNat := rfl
theorem optY_off (n : Int) : optY false n = [] := rfl
def opsY (ua ub uc ui : Bool) (x : Ins) : List Int := optY ua x.a ++ (optY ub x.b ++ (optY uc x.c ++ optY ui x.imm))
/-- The bytes of an instruction. -/
def insY (x : Ins) : List Int := x.op :: opsY (useA x.op) (useB x.op) (useC x.op) (useI x.op) x
/-- The exponent of a power of two. -/
def expo (a : Int) : Nat := Nat.log2 a.toNat
theorem expo_pow (k : Nat) : expo ((2 : Int) ^ k) = k := by
  unfold expo
  have e : ((2 : Int) ^ k).toNat = 2 ^ k := by
    have : ((2 : Int) ^ k) = ((2 ^ k : Nat) : Int) := by simp
    rw [this, Int.toNat_natCast]
  rw [e, Nat.log2_two_pow]
def slY (s : Int × Int) : List Int := digsI s.1.toNat ++ digsI (expo s.2)
/-- The description of a function. -/
def fnY (f : Fn) : List Int := digsI f.params.toNat ++ (digsI f.slots.length ++ (f.slots.flatMap slY ++ (digsI f.code.length ++ f.code.flatMap insY)))
def lenY (f : Fn) : List Int := digsI (fnY f).length ++ fnY f
def magic : List Int := [83, 73, 82, 49]
/-- A program without its checksum. -/
def pgY (F : Pg) : List Int := magic ++ (digsI F.length ++ F.flatMap lenY)
/-- A checksum, the most significant byte first. -/
def crcI (c : Nat) : List Int := [((c / 16777216 % 256 : Nat) : Int), ((c / 65536 % 256 : Nat) : Int), ((c / 256 % 256 : Nat) : Int), ((c % 256 : Nat) : Int)]
def crcN (l : List Int) : Nat := 4294967295 - crcAll 4294967295 l
def withY (l : List Int) : List Int := l ++ crcI (crcN l)
def encY (F : Pg) : List Int := withY (pgY F)
/-- The error of Encode. -/
def encE (F : Pg) : Int := if pgE F ≠ 0 then pgE F else if 1048576 < (encY F).length then 3 else 0

theorem crcN_lt (l : List Int) : crcN l < 4294967296 := by unfold crcN; omega
theorem crcI_bytes (c : Nat) : Byt (crcI c) := by
  unfold crcI
  exact Byt.cons (by omega) (by omega) (Byt.cons (by omega) (by omega) (Byt.cons (by omega) (by omega) (Byt.one (by omega) (by omega))))
theorem crcI_length (c : Nat) : (crcI c).length = 4 := rfl
theorem crcI_inj {a b : Nat} (ha : a < 4294967296) (hb : b < 4294967296) (h : crcI a = crcI b) : a = b := by
  simp only [crcI, List.cons.injEq, and_true] at h
  omega
theorem withY_length (l : List Int) : (withY l).length = l.length + 4 := by simp [withY, crcI_length]

/-- What reading gives: an error, or what was read and what is left. -/
inductive Rd (α : Type) where
  | no (e : Int) : Rd α
  | ok (a : α) (r : List Int) : Rd α
def Rd.and {α β : Type} (m : Rd α) (k : α → List Int → Rd β) : Rd β := match m with
  | .no e => .no e
  | .ok a r => k a r
theorem Rd.and_no {α β : Type} (e : Int) (k : α → List Int → Rd β) : (Rd.no e : Rd α).and k = .no e := rfl
theorem Rd.and_ok {α β : Type} (a : α) (r : List Int) (k : α → List Int → Rd β) : (Rd.ok a r).and k = k a r := rfl
theorem Rd.and_eq {α β : Type} {m : Rd α} {k : α → List Int → Rd β} {b : β} {s : List Int} (h : m.and k = .ok b s) : ∃ a r, m = .ok a r ∧ k a r = .ok b s := by
  cases m with
  | no e => simp [Rd.and] at h
  | ok a r => exact ⟨a, r, rfl, h⟩

def wordR (l : List Int) : Rd Nat := if (scan l 0 0).2.2 = 0 then .ok (scan l 0 0).1 (l.drop (scan l 0 0).2.1) else .no (scan l 0 0).2.2
def numR (l : List Int) : Rd Nat := (wordR l).and fun v r => if 2147483647 < v then .no 4 else .ok v r
def countR (most : Nat) (l : List Int) : Rd Nat := (numR l).and fun n r => if most < n then .no 3 else .ok n r
def optR (u : Bool) (p : List Int → Rd Nat) (l : List Int) : Rd Nat := if u then p l else .ok 0 l
/-- The operands. -/
def opsR (ua ub uc ui : Bool) (z : Int) (l : List Int) : Rd Ins :=
  (optR ua numR l).and fun a r => (optR ub numR r).and fun b r => (optR uc numR r).and fun c r => (optR ui wordR r).and fun m r => .ok ⟨z, a, b, c, m⟩ r
def insR (l : List Int) : Rd Ins := match l with
  | [] => .no 1
  | z :: r => if 25 ≤ z then .no 4 else opsR (useA z) (useB z) (useC z) (useI z) z r
def slR (l : List Int) : Rd (Int × Int) := (numR l).and fun s r => (numR r).and fun k r => if 24 < k then .no 4 else .ok ((s : Int), (2 : Int) ^ k) r
def timesR {α : Type} (p : List Int → Rd α) : Nat → List Int → Rd (List α)
  | 0, l => .ok [] l
  | n + 1, l => (p l).and fun a r => (timesR p n r).and fun xs r => .ok (a :: xs) r
def endR {α : Type} (a : α) (r : List Int) : Rd α := if r = [] then .ok a [] else .no 2
def descR (d : List Int) : Rd Fn := (numR d).and fun P r => (countR 512 r).and fun n r => (timesR slR n r).and fun S r => (countR 1024 r).and fun m r => (timesR insR m r).and fun C r => endR ⟨P, S, C⟩ r
/-- A function and its description. -/
def fnR (l : List Int) : Rd (Fn × List Int) := (numR l).and fun n r => if r.length < n then .no 1 else (descR (r.take n)).and fun f _ => .ok (f, r.take n) (r.drop n)
def pgR (l : List Int) : Rd (List (Fn × List Int)) := (countR 80 l).and fun n r => (timesR fnR n r).and fun L r => endR L r
/-- What Parse gives for these bytes: an error, or the functions and their descriptions. -/
def parseR (zs : List Int) : Int × List (Fn × List Int) :=
  if 1048576 < zs.length then (3, []) else if zs.length < 9 then (1, [])
  else if zs.take 4 = magic ∧ zs.drop (zs.length - 4) = crcI (crcN (zs.take (zs.length - 4))) then (match pgR ((zs.take (zs.length - 4)).drop 4) with
    | .no e => (e, [])
    | .ok L _ => (0, L))
  else (2, [])
def parseF (zs : List Int) : Pg := (parseR zs).2.map (·.1)
def parseD (zs : List Int) : List (List Int) := (parseR zs).2.map (·.2)
def decE (zs : List Int) : Int := if (parseR zs).1 = 0 then pgE (parseF zs) else (parseR zs).1
def decF (zs : List Int) : Pg := if decE zs = 0 then parseF zs else []

-- errors are errors
def Rd.fair {α : Type} (m : Rd α) : Prop := match m with
  | .no e => 1 ≤ e ∧ e ≤ 4
  | .ok _ _ => True
theorem Rd.fair_no {α : Type} {e : Int} (h : 1 ≤ e ∧ e ≤ 4) : (Rd.no e : Rd α).fair := h
theorem Rd.fair_and {α β : Type} {m : Rd α} {k : α → List Int → Rd β} (h : m.fair) (h' : ∀ a r, (k a r).fair) : (m.and k).fair := by
  cases m with
  | no e => exact h
  | ok a r => exact h' a r
theorem scan_err (l : List Int) : ∀ i v : Nat, (scan l i v).2.2 ≤ 2 := by
  induction l with
  | nil => intro i v; simp [scan]
  | cons z r ih =>
    intro i v
    rw [scan]
    split
    · simp
    · split
      · exact ih _ _
      · split <;> simp
theorem wordR_fair (l : List Int) : (wordR l).fair := by
  unfold wordR
  split
  · trivial
  · have := scan_err l 0 0
    exact ⟨by omega, by omega⟩
theorem numR_fair (l : List Int) : (numR l).fair := Rd.fair_and (wordR_fair l) fun v r => by
  split
  · exact ⟨by decide, by decide⟩
  · trivial
theorem countR_fair (most : Nat) (l : List Int) : (countR most l).fair := Rd.fair_and (numR_fair l) fun v r => by
  split
  · exact ⟨by decide, by decide⟩
  · trivial
theorem optR_fair {u : Bool} {p : List Int → Rd Nat} (h : ∀ l, (p l).fair) (l : List Int) : (optR u p l).fair := by
  cases u with
  | true => exact h l
  | false => trivial
theorem opsR_fair (ua ub uc ui : Bool) (z : Int) (l : List Int) : (opsR ua ub uc ui z l).fair :=
  Rd.fair_and (optR_fair numR_fair _) fun _ _ => Rd.fair_and (optR_fair numR_fair _) fun _ _ => Rd.fair_and (optR_fair numR_fair _) fun _ _ => Rd.fair_and (optR_fair wordR_fair _) fun _ _ => trivial
theorem insR_fair (l : List Int) : (insR l).fair := by
  cases l with
  | nil => exact ⟨by decide, by decide⟩
  | cons z r =>
    unfold insR
    simp only
    split
    · exact ⟨by decide, by decide⟩
    · exact opsR_fair _ _ _ _ _ _
theorem slR_fair (l : List Int) : (slR l).fair := Rd.fair_and (numR_fair _) fun _ _ => Rd.fair_and (numR_fair _) fun _ _ => by
  split
  · exact ⟨by decide, by decide⟩
  · trivial
theorem timesR_fair {α : Type} {p : List Int → Rd α} (h : ∀ l, (p l).fair) : ∀ (n : Nat) (l : List Int), (timesR p n l).fair
  | 0, _ => trivial
  | n + 1, l => Rd.fair_and (h l) fun _ r => Rd.fair_and (timesR_fair h n r) fun _ _ => trivial
theorem endR_fair {α : Type} (a : α) (r : List Int) : (endR a r).fair := by
  unfold endR
  split
  · trivial
  · exact ⟨by decide, by decide⟩
theorem descR_fair (l : List Int) : (descR l).fair :=
  Rd.fair_and (numR_fair _) fun _ _ => Rd.fair_and (countR_fair _ _) fun _ _ => Rd.fair_and (timesR_fair slR_fair _ _) fun _ _ => Rd.fair_and (countR_fair _ _) fun _ _ => Rd.fair_and (timesR_fair insR_fair _ _) fun _ _ => endR_fair _ _
theorem fnR_fair (l : List Int) : (fnR l).fair := Rd.fair_and (numR_fair _) fun _ _ => by
  split
  · exact ⟨by decide, by decide⟩
  · exact Rd.fair_and (descR_fair _) fun _ _ => trivial
theorem pgR_fair (l : List Int) : (pgR l).fair := Rd.fair_and (countR_fair _ _) fun _ _ => Rd.fair_and (timesR_fair fnR_fair _ _) fun _ _ => endR_fair _ _

-- reading inverts writing
theorem wordR_digs {u : Nat} (hu : u ≤ 18446744073709551615) (r : List Int) : wordR (digsI u ++ r) = .ok u r := by
  have h := scan_digs u 0 0 r (by omega) (by simp; omega) (.inl rfl)
  unfold wordR
  rw [h]
  simp only [if_true]
  rw [Nat.zero_add, Nat.pow_zero, Nat.mul_one, Nat.zero_add, ← digsI_length, List.drop_left]
theorem numR_digs {u : Nat} (hu : u ≤ 2147483647) (r : List Int) : numR (digsI u ++ r) = .ok u r := by
  unfold numR
  rw [wordR_digs (by omega), Rd.and_ok, if_neg (by omega)]
theorem countR_digs {u most : Nat} (hu : u ≤ most) (hm : most ≤ 2147483647) (r : List Int) : countR most (digsI u ++ r) = .ok u r := by
  unfold countR
  rw [numR_digs (by omega), Rd.and_ok, if_neg (by omega)]
theorem optR_num {u : Bool} {n : Int} (h0 : 0 ≤ n) (h1 : n ≤ 2147483647) (hu : u = false → n = 0) (r : List Int) : optR u numR (optY u n ++ r) = .ok n.toNat r := by
  cases u with
  | true => rw [optY_on]; exact numR_digs (by omega) r
  | false => obtain rfl := hu rfl; rfl
theorem optR_word {u : Bool} {n : Int} (h0 : 0 ≤ n) (h1 : n ≤ 18446744073709551615) (hu : u = false → n = 0) (r : List Int) : optR u wordR (optY u n ++ r) = .ok n.toNat r := by
  cases u with
  | true => rw [optY_on]; exact wordR_digs (by omega) r
  | false => obtain rfl := hu rfl; rfl
/-- An instruction that can be written. -/
structure InsW (x : Ins) : Prop where
  o : 0 ≤ x.op ∧ x.op < 25
  a : 0 ≤ x.a ∧ x.a ≤ 2147483647
  b : 0 ≤ x.b ∧ x.b ≤ 2147483647
  c : 0 ≤ x.c ∧ x.c ≤ 2147483647
  m : 0 ≤ x.imm ∧ x.imm ≤ 18446744073709551615
  ua : useA x.op = false → x.a = 0
  ub : useB x.op = false → x.b = 0
  uc : useC x.op = false → x.c = 0
  ui : useI x.op = false → x.imm = 0
theorem insR_insY {x : Ins} (h : InsW x) (r : List Int) : insR (insY x ++ r) = .ok x r := by
  obtain ⟨o, a, b, c, m⟩ := x
  have h0 : ¬ (25 ≤ o) := by have := h.o; simp at this; omega
  rw [show insY ⟨o, a, b, c, m⟩ ++ r = o :: (opsY (useA o) (useB o) (useC o) (useI o) ⟨o, a, b, c, m⟩ ++ r) from rfl]
  unfold insR
  simp only
  rw [if_neg h0]
  unfold opsR opsY
  simp only [List.append_assoc]
  rw [optR_num h.a.1 h.a.2 h.ua, Rd.and_ok, optR_num h.b.1 h.b.2 h.ub, Rd.and_ok, optR_num h.c.1 h.c.2 h.uc, Rd.and_ok, optR_word h.m.1 h.m.2 h.ui, Rd.and_ok]
  rw [Int.toNat_of_nonneg h.a.1, Int.toNat_of_nonneg h.b.1, Int.toNat_of_nonneg h.c.1, Int.toNat_of_nonneg h.m.1]
/-- A slot that can be written. -/
def SlW (s : Int × Int) : Prop := (0 ≤ s.1 ∧ s.1 ≤ 2147483647) ∧ ∃ k : Nat, k ≤ 24 ∧ s.2 = (2 : Int) ^ k
theorem slR_slY {s : Int × Int} (h : SlW s) (r : List Int) : slR (slY s ++ r) = .ok s r := by
  obtain ⟨z, a⟩ := s
  obtain ⟨⟨h0, h1⟩, k, hk, e⟩ := h
  simp only at h0 h1 e
  subst e
  unfold slR slY
  simp only [List.append_assoc, expo_pow]
  rw [numR_digs (by omega), Rd.and_ok, numR_digs (by omega), Rd.and_ok, if_neg (by omega), Int.toNat_of_nonneg h0]
theorem timesR_flat {α : Type} {p : List Int → Rd α} {f : α → List Int} (l : List α) (h : ∀ a ∈ l, ∀ r, p (f a ++ r) = .ok a r) (r : List Int) : timesR p l.length (l.flatMap f ++ r) = .ok l r := by
  induction l with
  | nil => rfl
  | cons a s ih =>
    simp only [List.length_cons, List.flatMap_cons, List.append_assoc, timesR]
    rw [h a List.mem_cons_self, Rd.and_ok, ih (fun b hb => h b (List.mem_cons_of_mem _ hb)), Rd.and_ok]
/-- A function that can be written. -/
structure FnW (f : Fn) : Prop where
  p : 0 ≤ f.params ∧ f.params ≤ 2147483647
  s : f.slots.length ≤ 512
  c : f.code.length ≤ 1024
  sl : ∀ s ∈ f.slots, SlW s
  cd : ∀ x ∈ f.code, InsW x
theorem descR_fnY {f : Fn} (h : FnW f) : descR (fnY f) = .ok f [] := by
  obtain ⟨P, S, C⟩ := f
  have hp := h.p
  have hs := h.s
  have hc := h.c
  simp only at hp hs hc
  unfold descR fnY
  simp only
  rw [numR_digs (by omega), Rd.and_ok, countR_digs hs (by omega), Rd.and_ok, timesR_flat S (fun s m r => slR_slY (h.sl s m) r), Rd.and_ok, countR_digs hc (by omega), Rd.and_ok]
  have e := timesR_flat C (f := insY) (fun x m r => insR_insY (h.cd x m) r) []
  rw [List.append_nil] at e
  rw [e, Rd.and_ok, Int.toNat_of_nonneg hp.1]
  rfl
theorem lenv_31 {n : Nat} (h : n ≤ 2147483647) : lenv n ≤ 10 := lenv_le n (by omega)
theorem opt_len (u : Bool) (n : Int) (h0 : 0 ≤ n) (h : n ≤ 18446744073709551615) : (optY u n).length ≤ 10 := by
  cases u with
  | true => rw [optY_on, digsI_length]; exact lenv_le _ (by omega)
  | false => simp [optY_off]
theorem insY_len {x : Ins} (h : InsW x) : (insY x).length ≤ 41 := by
  have h1 := opt_len (useA x.op) x.a h.a.1 (by have := h.a.2; omega)
  have h2 := opt_len (useB x.op) x.b h.b.1 (by have := h.b.2; omega)
  have h3 := opt_len (useC x.op) x.c h.c.1 (by have := h.c.2; omega)
  have h4 := opt_len (useI x.op) x.imm h.m.1 h.m.2
  simp only [insY, opsY, List.length_cons, List.length_append]
  omega
theorem slY_len {s : Int × Int} (h : SlW s) : (slY s).length ≤ 20 := by
  obtain ⟨⟨h0, h1⟩, k, hk, e⟩ := h
  unfold slY
  rw [e, expo_pow, List.length_append, digsI_length, digsI_length]
  have := lenv_31 (n := s.1.toNat) (by omega)
  have := lenv_31 (n := k) (by omega)
  omega
theorem flat_le {α : Type} {f : α → List Int} {m : Nat} (l : List α) (h : ∀ a ∈ l, (f a).length ≤ m) : (l.flatMap f).length ≤ l.length * m := by
  induction l with
  | nil => simp
  | cons a r ih =>
    have h1 := h a List.mem_cons_self
    have h2 := ih (fun b hb => h b (List.mem_cons_of_mem _ hb))
    simp only [List.flatMap_cons, List.length_append, List.length_cons, Nat.add_mul]
    omega
theorem fnY_len {f : Fn} (h : FnW f) : (fnY f).length ≤ 60000 := by
  have h1 := flat_le (f := slY) f.slots (fun s m => slY_len (h.sl s m))
  have h2 := flat_le (f := insY) f.code (fun x m => insY_len (h.cd x m))
  have hp := h.p
  have hs := h.s
  have hc := h.c
  have h3 := lenv_31 (n := f.params.toNat) (by omega)
  have h4 := lenv_31 (n := f.slots.length) (by omega)
  have h5 := lenv_31 (n := f.code.length) (by omega)
  simp only [fnY, List.length_append, digsI_length]
  omega
theorem fnR_lenY {f : Fn} (h : FnW f) (r : List Int) : fnR (lenY f ++ r) = .ok (f, fnY f) r := by
  have hl := fnY_len h
  unfold fnR lenY
  simp only [List.append_assoc]
  rw [numR_digs (by omega), Rd.and_ok, if_neg (by simp), List.take_left, List.drop_left, descR_fnY h, Rd.and_ok]
/-- A program that can be written. -/
def PgW (F : Pg) : Prop := F.length ≤ 80 ∧ ∀ f ∈ F, FnW f
theorem pgR_pgY {F : Pg} (h : PgW F) : pgR (digsI F.length ++ F.flatMap lenY) = .ok (F.map fun f => (f, fnY f)) [] := by
  unfold pgR
  rw [countR_digs h.1 (by omega), Rd.and_ok]
  have e := timesR_flat (p := fnR) (f := fun u : Fn × List Int => lenY u.1) (F.map fun f => (f, fnY f)) (fun a ha r => by
    obtain ⟨f, hf, rfl⟩ := List.mem_map.1 ha
    exact fnR_lenY (h.2 f hf) r) []
  rw [List.append_nil, List.length_map, List.flatMap_map] at e
  rw [e, Rd.and_ok]
  rfl
theorem pgY_len {F : Pg} : 5 ≤ (pgY F).length := by
  have := lenv_pos F.length
  simp [pgY, magic, digsI_length]
  omega
theorem withY_parts (l : List Int) : (withY l).take ((withY l).length - 4) = l ∧ (withY l).drop ((withY l).length - 4) = crcI (crcN l) := by
  rw [withY_length, Nat.add_sub_cancel]
  exact ⟨List.take_left, List.drop_left⟩
theorem parseR_encY {F : Pg} (h : PgW F) (hl : (encY F).length ≤ 1048576) : parseR (encY F) = (0, F.map fun f => (f, fnY f)) := by
  have h5 := @pgY_len F
  have hL := withY_length (pgY F)
  have e1 : (withY (pgY F)).take 4 = magic := by
    unfold withY
    rw [List.take_append_of_le_length (by omega)]
    rfl
  unfold parseR encY
  rw [if_neg (by unfold encY at hl; omega), if_neg (by omega), (withY_parts _).1, (withY_parts _).2, if_pos ⟨e1, rfl⟩]
  have e2 : (pgY F).drop 4 = digsI F.length ++ F.flatMap lenY := rfl
  rw [e2, pgR_pgY h]
theorem parse_enc {F : Pg} (h : PgW F) (hl : (encY F).length ≤ 1048576) : (parseR (encY F)).1 = 0 ∧ parseF (encY F) = F ∧ parseD (encY F) = F.map fnY := by
  unfold parseF parseD
  rw [parseR_encY h hl]
  refine ⟨rfl, ?_, ?_⟩
  · simp [Function.comp_def]
  · simp

-- what is read is what was written
theorem wordR_ok {l r : List Int} {v : Nat} (hz : Byt l) (h : wordR l = .ok v r) : l = digsI v ++ r ∧ v ≤ 18446744073709551615 := by
  unfold wordR at h
  split at h
  · rename_i h0
    injection h with h1 h2
    obtain ⟨u, hx, he, ht, hl, _⟩ := scan_ok l 0 0 (scan l 0 0).1 (scan l 0 0).2.1 hz (Prod.ext rfl (Prod.ext rfl h0))
    have hle := scan_le l 0 0 hz (by omega) (by simp)
    rw [Nat.zero_add, Nat.pow_zero, Nat.mul_one] at hx
    rw [Nat.zero_add] at he
    rw [← h2, he, ← h1, hx, ← ht, List.take_append_drop]
    exact ⟨rfl, by omega⟩
  · cases h
theorem numR_ok {l r : List Int} {v : Nat} (hz : Byt l) (h : numR l = .ok v r) : l = digsI v ++ r ∧ v ≤ 2147483647 := by
  obtain ⟨a, s, h1, h2⟩ := Rd.and_eq h
  obtain ⟨e, _⟩ := wordR_ok hz h1
  split at h2
  · cases h2
  · injection h2 with h3 h4
    subst h3 h4
    exact ⟨e, by omega⟩
theorem countR_ok {most : Nat} {l r : List Int} {v : Nat} (hz : Byt l) (h : countR most l = .ok v r) : l = digsI v ++ r ∧ v ≤ most := by
  obtain ⟨a, s, h1, h2⟩ := Rd.and_eq h
  obtain ⟨e, _⟩ := numR_ok hz h1
  split at h2
  · cases h2
  · injection h2 with h3 h4
    subst h3 h4
    exact ⟨e, by omega⟩
theorem optNum_ok {u : Bool} {l r : List Int} {v : Nat} (hz : Byt l) (h : optR u numR l = .ok v r) : l = optY u v ++ r ∧ v ≤ 2147483647 ∧ (u = false → v = 0) := by
  cases u with
  | true =>
    obtain ⟨e, hv⟩ := numR_ok hz h
    exact ⟨by rw [optY_on, Int.toNat_natCast]; exact e, hv, fun h => by cases h⟩
  | false =>
    simp only [optR] at h
    injection h with h1 h2
    subst h1 h2
    exact ⟨rfl, by omega, fun _ => rfl⟩
theorem optWord_ok {u : Bool} {l r : List Int} {v : Nat} (hz : Byt l) (h : optR u wordR l = .ok v r) : l = optY u v ++ r ∧ v ≤ 18446744073709551615 ∧ (u = false → v = 0) := by
  cases u with
  | true =>
    obtain ⟨e, hv⟩ := wordR_ok hz h
    exact ⟨by rw [optY_on, Int.toNat_natCast]; exact e, hv, fun h => by cases h⟩
  | false =>
    simp only [optR] at h
    injection h with h1 h2
    subst h1 h2
    exact ⟨rfl, by omega, fun _ => rfl⟩
theorem insR_ok {l r : List Int} {x : Ins} (hz : Byt l) (h : insR l = .ok x r) : l = insY x ++ r ∧ InsW x := by
  cases l with
  | nil => cases h
  | cons z s =>
    have h0 := hz z List.mem_cons_self
    have hs : Byt s := fun y hy => hz y (List.mem_cons_of_mem _ hy)
    unfold insR at h
    simp only at h
    split at h
    · cases h
    · rename_i h25
      unfold opsR at h
      obtain ⟨a, r1, e1, h⟩ := Rd.and_eq h
      obtain ⟨b, r2, e2, h⟩ := Rd.and_eq h
      obtain ⟨c, r3, e3, h⟩ := Rd.and_eq h
      obtain ⟨m, r4, e4, h⟩ := Rd.and_eq h
      injection h with h1 h2
      obtain ⟨g1, b1, u1⟩ := optNum_ok hs e1
      subst g1
      obtain ⟨g2, b2, u2⟩ := optNum_ok hs.right e2
      subst g2
      obtain ⟨g3, b3, u3⟩ := optNum_ok hs.right.right e3
      subst g3
      obtain ⟨g4, b4, u4⟩ := optWord_ok hs.right.right.right e4
      subst g4 h1 h2
      refine ⟨?_, ⟨by simp; omega, by simp; omega, by simp; omega, by simp; omega, by simp; omega, ?_, ?_, ?_, ?_⟩⟩
      · simp [insY, opsY]
      · intro h; simpa using u1 h
      · intro h; simpa using u2 h
      · intro h; simpa using u3 h
      · intro h; simpa using u4 h
theorem slR_ok {l r : List Int} {s : Int × Int} (hz : Byt l) (h : slR l = .ok s r) : l = slY s ++ r ∧ SlW s := by
  unfold slR at h
  obtain ⟨a, r1, e1, h⟩ := Rd.and_eq h
  obtain ⟨k, r2, e2, h⟩ := Rd.and_eq h
  split at h
  · cases h
  · rename_i hk
    injection h with h1 h2
    obtain ⟨g1, b1⟩ := numR_ok hz e1
    subst g1
    obtain ⟨g2, b2⟩ := numR_ok hz.right e2
    subst g2 h1 h2
    refine ⟨?_, ⟨by simp; omega, k, by omega, rfl⟩⟩
    unfold slY
    rw [expo_pow, Int.toNat_natCast, List.append_assoc]
theorem timesR_ok {α : Type} {p : List Int → Rd α} {f : α → List Int} {ok : α → Prop} (hp : ∀ l a r, Byt l → p l = .ok a r → l = f a ++ r ∧ ok a) :
    ∀ (n : Nat) (l : List Int) (xs : List α) (r : List Int), Byt l → timesR p n l = .ok xs r → l = xs.flatMap f ++ r ∧ xs.length = n ∧ ∀ a ∈ xs, ok a
  | 0, l, xs, r, _, h => by
    simp only [timesR] at h
    injection h with h1 h2
    subst h1 h2
    exact ⟨rfl, rfl, fun a ha => by cases ha⟩
  | n + 1, l, xs, r, hz, h => by
    simp only [timesR] at h
    obtain ⟨a, r1, e1, h⟩ := Rd.and_eq h
    obtain ⟨bs, r2, e2, h⟩ := Rd.and_eq h
    injection h with h1 h2
    obtain ⟨g1, o1⟩ := hp l a r1 hz e1
    subst g1
    obtain ⟨g2, n2, o2⟩ := timesR_ok hp n r1 bs r2 hz.right e2
    subst g2 h1 h2
    refine ⟨by simp, by simp [n2], fun b hb => ?_⟩
    rcases List.mem_cons.1 hb with rfl | hb
    · exact o1
    · exact o2 b hb
theorem endR_ok {α : Type} {a b : α} {r s : List Int} (h : endR a r = .ok b s) : r = [] ∧ s = [] ∧ b = a := by
  unfold endR at h
  split at h
  · injection h with h1 h2
    exact ⟨‹_›, h2.symm, h1.symm⟩
  · cases h
theorem descR_ok {l r : List Int} {f : Fn} (hz : Byt l) (h : descR l = .ok f r) : l = fnY f ∧ FnW f := by
  unfold descR at h
  obtain ⟨P, r1, e1, h⟩ := Rd.and_eq h
  obtain ⟨n, r2, e2, h⟩ := Rd.and_eq h
  obtain ⟨S, r3, e3, h⟩ := Rd.and_eq h
  obtain ⟨m, r4, e4, h⟩ := Rd.and_eq h
  obtain ⟨C, r5, e5, h⟩ := Rd.and_eq h
  obtain ⟨h1, h2, h3⟩ := endR_ok h
  obtain ⟨g1, b1⟩ := numR_ok hz e1
  subst g1
  obtain ⟨g2, b2⟩ := countR_ok hz.right e2
  subst g2
  obtain ⟨g3, b3, o3⟩ := timesR_ok (ok := SlW) (fun l a r => slR_ok) n r2 S r3 hz.right.right e3
  subst g3
  obtain ⟨g4, b4⟩ := countR_ok hz.right.right.right e4
  subst g4
  obtain ⟨g5, b5, o5⟩ := timesR_ok (ok := InsW) (fun l a r => insR_ok) m r4 C r5 hz.right.right.right.right e5
  subst g5 h1 h3
  refine ⟨?_, ⟨by simp; omega, by simp; omega, by simp; omega, o3, o5⟩⟩
  simp [fnY, b3, b5]
theorem fnR_ok {l r : List Int} {u : Fn × List Int} (hz : Byt l) (h : fnR l = .ok u r) : l = lenY u.1 ++ r ∧ FnW u.1 ∧ u.2 = fnY u.1 := by
  unfold fnR at h
  obtain ⟨n, r1, e1, h0⟩ := Rd.and_eq h
  clear h
  obtain ⟨g1, b1⟩ := numR_ok hz e1
  subst g1
  split at h0
  · cases h0
  · rename_i hn
    obtain ⟨f, r2, e2, h⟩ := Rd.and_eq h0
    injection h with h1 h2
    subst h1 h2
    obtain ⟨g2, w⟩ := descR_ok (hz.right.take n) e2
    refine ⟨?_, w, g2⟩
    have hl : (fnY f).length = n := by rw [← g2, List.length_take]; omega
    unfold lenY
    rw [hl, ← g2, List.append_assoc, List.take_append_drop]
theorem pgR_ok {l r : List Int} {L : List (Fn × List Int)} (hz : Byt l) (h : pgR l = .ok L r) : l = digsI L.length ++ (L.map (·.1)).flatMap lenY ∧ PgW (L.map (·.1)) ∧ L.map (·.2) = (L.map (·.1)).map fnY := by
  unfold pgR at h
  obtain ⟨n, r1, e1, h⟩ := Rd.and_eq h
  obtain ⟨M, r2, e2, h⟩ := Rd.and_eq h
  obtain ⟨h1, _, h3⟩ := endR_ok h
  obtain ⟨g1, b1⟩ := countR_ok hz e1
  subst g1
  obtain ⟨g2, b2, o2⟩ := timesR_ok (f := fun u : Fn × List Int => lenY u.1) (ok := fun u => FnW u.1 ∧ u.2 = fnY u.1) (fun l a r => fnR_ok) n r1 M r2 hz.right e2
  subst h3 g2 h1
  refine ⟨by rw [b2, List.append_nil, List.flatMap_map], ⟨by simp [b2]; omega, fun f hf => ?_⟩, ?_⟩
  · obtain ⟨u, hu, rfl⟩ := List.mem_map.1 hf
    exact (o2 u hu).1
  · rw [List.map_map]
    exact List.map_congr_left fun u hu => (o2 u hu).2
theorem parse_ok {zs : List Int} (hz : Byt zs) (h : (parseR zs).1 = 0) : zs = encY (parseF zs) ∧ PgW (parseF zs) ∧ parseD zs = (parseF zs).map fnY ∧ zs.length ≤ 1048576 := by
  unfold parseF parseD
  by_cases h1 : 1048576 < zs.length
  · exact absurd h (by unfold parseR; rw [if_pos h1]; decide)
  by_cases h2 : zs.length < 9
  · exact absurd h (by unfold parseR; rw [if_neg h1, if_pos h2]; decide)
  by_cases h3 : zs.take 4 = magic ∧ zs.drop (zs.length - 4) = crcI (crcN (zs.take (zs.length - 4)))
  · have e : parseR zs = (match pgR ((zs.take (zs.length - 4)).drop 4) with
      | .no e => (e, [])
      | .ok L _ => (0, L)) := by unfold parseR; rw [if_neg h1, if_neg h2, if_pos h3]
    cases hp : pgR ((zs.take (zs.length - 4)).drop 4) with
    | no x =>
      rw [hp] at e
      obtain ⟨e1, e2⟩ : (parseR zs).1 = x ∧ (parseR zs).2 = [] := by rw [e]; exact ⟨rfl, rfl⟩
      rw [h] at e1
      subst e1
      have := pgR_fair ((zs.take (zs.length - 4)).drop 4)
      rw [hp] at this
      exact absurd this.1 (by decide)
    | ok L r =>
      rw [hp] at e
      rw [e]
      obtain ⟨g1, g2, g3⟩ := pgR_ok ((hz.take _).drop _) hp
      refine ⟨?_, g2, g3, by omega⟩
      have t4 : (zs.take (zs.length - 4)).take 4 = magic := by rw [List.take_take, Nat.min_eq_left (by omega)]; exact h3.1
      have ht : zs.take (zs.length - 4) = pgY (L.map (·.1)) := by
        rw [← List.take_append_drop 4 (zs.take (zs.length - 4)), t4, g1]
        simp [pgY]
      unfold encY withY
      rw [← ht, ← h3.2, List.take_append_drop]
  · exact absurd h (by unfold parseR; rw [if_neg h1, if_neg h2, if_neg h3]; decide)
end Go.Proofs.YtlcmcmocjbeocaaGreatDoor
end

section
/-
  A changed byte is found; a right program can be written. No function of the program is named here.
-/
namespace Go.Proofs.YtlcmcmocjbeocaaGreatDoor
open Go.RowKit

theorem Byt.set {l : List Int} (h : Byt l) (i : Nat) {z : Int} (h0 : 0 ≤ z) (h1 : z ≤ 255) : Byt (l.set i z) := fun y hy => by
  rcases List.mem_or_eq_of_mem_set hy with h2 | rfl
  · exact h y h2
  · exact ⟨h0, h1⟩
theorem crcAll_le (l : List Int) (h : Byt l) : crcAll 4294967295 l ≤ 4294967295 := by
  have := crcAll_lt l 4294967295 (by omega) h
  omega
theorem crc_end_ne {L : List Int} (h : Byt L) (i : Nat) {z z' : Int} (hz : L[i]? = some z) (h0 : 0 ≤ z') (h1 : z' ≤ 255) (hne : z' ≠ z) : crcI (crcN (L.set i z')) ≠ crcI (crcN L) := fun e => by
  have e1 := crcI_inj (crcN_lt _) (crcN_lt _) e
  unfold crcN at e1
  have h2 := crcAll_le L h
  have h3 := crcAll_le (L.set i z') (h.set i h0 h1)
  exact crc_set_ne L i z z' hz h h0 h1 hne (by omega)
/-- A byte of bytes with their checksum that has turned: format. -/
theorem parse_turned {L : List Int} (h : Byt L) (hL : 5 ≤ L.length) (hm : L.length + 4 ≤ 1048576) (i : Nat) {z z' : Int} (hz : (withY L)[i]? = some z) (h0 : 0 ≤ z') (h1 : z' ≤ 255) (hne : z' ≠ z) : parseR ((withY L).set i z') = (2, []) := by
  have hl : ((withY L).set i z').length = L.length + 4 := by rw [List.length_set, withY_length]
  unfold parseR
  rw [if_neg (by omega), if_neg (by omega), if_neg]
  rintro ⟨_, hd⟩
  rw [hl, Nat.add_sub_cancel] at hd
  by_cases hi : i < L.length
  · have e : (withY L).set i z' = L.set i z' ++ crcI (crcN L) := by unfold withY; rw [List.set_append_left _ _ hi]
    have hz2 : L[i]? = some z := by unfold withY at hz; rwa [List.getElem?_append_left hi] at hz
    have hll : (L.set i z').length = L.length := List.length_set
    rw [e, ← hll, List.drop_left, List.take_left] at hd
    exact crc_end_ne h i hz2 h0 h1 hne hd.symm
  · have e : (withY L).set i z' = L ++ (crcI (crcN L)).set (i - L.length) z' := by unfold withY; rw [List.set_append_right _ _ (by omega)]
    rw [e, List.drop_left, List.take_left] at hd
    have hz2 : (crcI (crcN L))[i - L.length]? = some z := by unfold withY at hz; rwa [List.getElem?_append_right (by omega)] at hz
    have hlt := (List.getElem?_eq_some_iff.1 hz2).1
    have h3 : ((crcI (crcN L)).set (i - L.length) z')[i - L.length]? = (crcI (crcN L))[i - L.length]? := by rw [hd]
    rw [List.getElem?_set_self hlt, hz2] at h3
    injection h3 with h3
    exact hne h3
theorem cut_short {n : Nat} (h : n < 9) {zs : List Int} (hl : zs.length = n) : parseR zs = (1, []) := by
  unfold parseR
  rw [if_neg (by omega), if_pos (by omega)]

/-- A right instruction can be written. -/
theorem insW_of {N : Nat} {f : Fn} {x : Ins} (h : insE N f x = 0) (hN : N ≤ 80) (hs : f.slots.length ≤ 512) (hp : f.params ≤ 8) (hc : f.code.length ≤ 1024) (hi : 0 ≤ x.imm ∧ x.imm ≤ 18446744073709551615) : InsW x := by
  obtain ⟨ho, e1, e2, e3, hm, _⟩ := insE_zero.1 h
  have b1 := withB_true.1 (opndE_zero.1 e1)
  have b2 := withB_true.1 (opndE_zero.1 e2)
  have b3 := withB_true.1 (opndE_zero.1 e3)
  have c1 := cntV_le (k := (shpOf x.op).1) hN hs hp hc
  have c2 := cntV_le (k := (shpOf x.op).2.1) hN hs hp hc
  have c3 := cntV_le (k := (shpOf x.op).2.2.1) hN hs hp hc
  have un : ∀ {k n : Int}, k = 0 → n < cntV N f k → 0 ≤ n → n = 0 := fun {k n} hk h1 h2 => by
    subst hk
    have : cntV N f 0 = 1 := rfl
    omega
  refine ⟨ho, ⟨b1.1, by omega⟩, ⟨b2.1, by omega⟩, ⟨b3.1, by omega⟩, hi, fun hu => ?_, fun hu => ?_, fun hu => ?_, fun hu => ?_⟩
  · exact un (by simpa [useA] using hu) b1.2 b1.1
  · exact un (by simpa [useB] using hu) b2.2 b2.1
  · exact un (by simpa [useC] using hu) b3.2 b3.1
  · rcases hm with hm | hm
    · unfold useI at hu; rw [hm] at hu; cases hu
    · exact hm
theorem slW_of {s : Int × Int} (h : slotB s.1 s.2 = true) : SlW s := by
  unfold slotB szB at h
  rw [Bool.and_eq_true] at h
  have h1 := of_decide_eq_true h.1
  exact ⟨by omega, powB_iff.1 h.2⟩
theorem fnW_of {N : Nat} {f : Fn} (h : fnE N f = 0) (hN : N ≤ 80) (hi : ∀ x ∈ f.code, 0 ≤ x.imm ∧ x.imm ≤ 18446744073709551615) : FnW f := by
  obtain ⟨hc, hs, hp, hx, _⟩ := fnE_zero.1 h
  have hl : f.slots.length ≤ 512 := by
    rcases Nat.lt_or_ge 512 f.slots.length with h1 | h1
    · rw [slotsE_many h1] at hs; cases hs
    · exact h1
  refine ⟨by omega, hl, hc, fun s hm => ?_, fun x hm => insW_of (hx x hm) hN hl hp.2 hc (hi x hm)⟩
  rw [slotsE_few hl] at hs
  split at hs
  · cases hs
  · rename_i ha
    simp only [List.any_eq_true, not_exists, not_and, Bool.not_eq_true, Bool.not_eq_false'] at ha
    exact slW_of (by have := ha s hm; simpa using this)
theorem pgW_of {F : Pg} (h : pgE F = 0) (hi : ∀ f ∈ F, ∀ x ∈ f.code, 0 ≤ x.imm ∧ x.imm ≤ 18446744073709551615) : PgW F := by
  obtain ⟨hl, _, hf⟩ := pgE_zero.1 h
  exact ⟨hl, fun f hm => fnW_of (hf f hm) hl (hi f hm)⟩
end Go.Proofs.YtlcmcmocjbeocaaGreatDoor
end

section
/-
  When two instructions, slots, functions are equal; '==' at slots and at instructions. No function of the program is named here.
-/
namespace Go.Proofs.YtlcmcmocjbeocaaGreatDoor
open Go.RowKit

instance : DecidableEq Ins := fun x y =>
  if h : x.op = y.op ∧ x.a = y.a ∧ x.b = y.b ∧ x.c = y.c ∧ x.imm = y.imm then isTrue (by
    obtain ⟨_, _, _, _, _⟩ := x
    obtain ⟨_, _, _, _, _⟩ := y
    obtain ⟨h1, h2, h3, h4, h5⟩ := h
    simp only at h1 h2 h3 h4 h5
    subst h1 h2 h3 h4 h5
    rfl)
  else isFalse fun e => h (by subst e; exact ⟨rfl, rfl, rfl, rfl, rfl⟩)
instance : DecidableEq Fn := fun x y =>
  if h : x.params = y.params ∧ x.slots = y.slots ∧ x.code = y.code then isTrue (by
    obtain ⟨_, _, _⟩ := x
    obtain ⟨_, _, _⟩ := y
    obtain ⟨h1, h2, h3⟩ := h
    simp only at h1 h2 h3
    subst h1 h2 h3
    rfl)
  else isFalse fun e => h (by subst e; exact ⟨rfl, rfl, rfl⟩)
theorem ins_eq {x y : Ins} : x = y ↔ x.op = y.op ∧ x.a = y.a ∧ x.b = y.b ∧ x.c = y.c ∧ x.imm = y.imm := by
  constructor
  · rintro rfl; exact ⟨rfl, rfl, rfl, rfl, rfl⟩
  · intro h
    obtain ⟨_, _, _, _, _⟩ := x
    obtain ⟨_, _, _, _, _⟩ := y
    obtain ⟨h1, h2, h3, h4, h5⟩ := h
    simp only at h1 h2 h3 h4 h5
    subst h1 h2 h3 h4 h5
    rfl

theorem snoc_take {α : Type} {l : List α} {k : Nat} (h : k < l.length) : l.take (k + 1) = l.take k ++ [l[k]] := by
  rw [List.take_add_one, List.getElem?_eq_getElem h]; rfl
theorem ne_take {α : Type} {l m : List α} {k : Nat} (h1 : k < l.length) (h2 : k < m.length) (hne : l[k] ≠ m[k]) : l ≠ m := by
  rintro rfl; exact hne rfl

/-- Whether two lists are equal, the world but for draws as it was. -/
def BoolDrew (b : Bool) (w : World) (e : Ending) (w' : World) : Prop := e = .returned (.bool b) ∧ ∃ k, w' = w.drewN k

theorem slot_fields : Tryz.prog.underlying 74 = some (.struct (Tryz.prog.fieldsOf 74)) := by kernel_rfl
theorem slot_held : Tryz.prog.stoodInHeld 74 = false := by kernel_rfl
theorem equalIn_slot (a b c d : Int) (w : World) : (Op.equalIn 10000 74 (pv a b) (pv c d)).run Tryz.prog w = .ok (decide (a = c) && decide (b = d)) w := by
  rw [show (10000 : Nat) = 9999 + 1 from rfl, run_equalIn_agg w 9999 74 _ _ slot_fields slot_held]
  have u := Tryz.underlying3
  have a' := Tryz.isAgg3
  have z := Tryz.sizeOf3
  simp only [Program.fieldsOf, Tryz.underlying74]
  go_simp
  by_cases h1 : a = c <;> by_cases h2 : b = d <;> simp [h1, h2]
theorem run_ne_slot (a b c d : Int) (w : World) : (binOp .neq 74 (pv a b) (pv c d)).run Tryz.prog w = .ok (.bool (!(decide (a = c) && decide (b = d)))) w := by
  rw [run_neq_struct, equalIn_slot, Result.andThen_ok]
theorem instr_fields : Tryz.prog.underlying 64 = some (.struct (Tryz.prog.fieldsOf 64)) := by kernel_rfl
theorem instr_held : Tryz.prog.stoodInHeld 64 = false := by kernel_rfl
theorem equalIn_instr (o a b c m o' a' b' c' m' : Int) (w : World) : (Op.equalIn 10000 64 (iv o a b c m) (iv o' a' b' c' m')).run Tryz.prog w = .ok (decide (o = o') && (decide (a = a') && (decide (b = b') && (decide (c = c') && decide (m = m'))))) w := by
  rw [show (10000 : Nat) = 9999 + 1 from rfl, run_equalIn_agg w 9999 64 _ _ instr_fields instr_held]
  have u := Tryz.underlying3
  have ag := Tryz.isAgg3
  have z := Tryz.sizeOf3
  have u' := Tryz.underlying35
  have ag' := Tryz.isAgg35
  have z' := Tryz.sizeOf35
  simp only [Program.fieldsOf, Tryz.underlying64]
  go_simp
  by_cases h1 : o = o' <;> by_cases h2 : a = a' <;> by_cases h3 : b = b' <;> by_cases h4 : c = c' <;> by_cases h5 : m = m' <;> simp [h1, h2, h3, h4, h5]
theorem run_ne_instr (o a b c m o' a' b' c' m' : Int) (w : World) : (binOp .neq 64 (iv o a b c m) (iv o' a' b' c' m')).run Tryz.prog w = .ok (.bool (!(decide (o = o') && (decide (a = a') && (decide (b = b') && (decide (c = c') && decide (m = m'))))))) w := by
  rw [run_neq_struct, equalIn_instr, Result.andThen_ok]

theorem fn_eq {x y : Fn} : x = y ↔ x.params = y.params ∧ x.slots = y.slots ∧ x.code = y.code := by
  constructor
  · rintro rfl; exact ⟨rfl, rfl, rfl⟩
  · intro h
    obtain ⟨_, _, _⟩ := x
    obtain ⟨_, _, _⟩ := y
    obtain ⟨h1, h2, h3⟩ := h
    simp only at h1 h2 h3
    subst h1 h2 h3
    rfl
end Go.Proofs.YtlcmcmocjbeocaaGreatDoor
end

section
/-
  The mathematics of targets: frames, targets as lists; the errors of an instruction, of a frame, of a target. Nothing here names the program.
-/
namespace Go.Proofs.YtlcmcmocjbeocaaGreatDoor
open Go.RowKit

/-- A frame. -/
structure Fm where
  params : Int
  size : Int
  code : List Ins
/-- A target's frames. -/
abbrev Tg := List Fm
theorem fm_eq {x y : Fm} : x = y ↔ x.params = y.params ∧ x.size = y.size ∧ x.code = y.code := by
  constructor
  · rintro rfl; exact ⟨rfl, rfl, rfl⟩
  · intro h
    obtain ⟨_, _, _⟩ := x
    obtain ⟨_, _, _⟩ := y
    obtain ⟨h1, h2, h3⟩ := h
    simp only at h1 h2 h3
    subst h1 h2 h3
    rfl
instance : DecidableEq Fm := fun x y =>
  if h : x.params = y.params ∧ x.size = y.size ∧ x.code = y.code then isTrue (fm_eq.2 h) else isFalse fun e => h (fm_eq.1 e)

/-- The kinds of the operands A, B, C: 0 unused, 1 a register, 2 an offset, 3 a size, 4 a function, 5 a target; and whether Imm is used. -/
def mshp : List (Int × Int × Int × Bool) :=
  [(1, 0, 0, true), (1, 1, 0, false), (1, 1, 1, false), (1, 1, 1, false), (1, 1, 1, false), (1, 1, 1, false), (1, 1, 1, false), (1, 1, 1, false), (1, 1, 1, false), (1, 1, 1, false), (1, 1, 1, false), (1, 1, 1, false),
   (1, 1, 0, false), (1, 0, 0, false), (1, 0, 0, false), (1, 2, 3, false), (2, 1, 3, false), (2, 2, 3, false), (0, 0, 0, false), (0, 0, 0, false), (5, 0, 0, false), (1, 5, 0, false), (4, 0, 0, false), (0, 0, 0, false), (0, 0, 0, true)]
def mshpOf (op : Int) : Int × Int × Int × Bool := mshp.getD op.toNat (0, 0, 0, false)
/-- The error of one operand: N frames, C instructions. -/
def mopE (N C k n : Int) : Int :=
  if k = 0 then (if n = 0 then 0 else 2) else if k = 1 then (if withB n 8 then 0 else 4) else if k = 4 then (if withB n N then 0 else 4) else if k = 3 then (if szB n then 0 else 5) else if k = 5 then (if withB n C then 0 else 6) else 0
/-- The operation exists in the target. -/
def exB (op : Int) : Bool := withB op 25 && (!decide (op = 18) && !decide (op = 19))
/-- An instruction reads, or writes, memory. -/
def rdB (op : Int) : Bool := decide (op = 15) || decide (op = 17)
def wrB (op : Int) : Bool := decide (op = 16) || decide (op = 17)
/-- The interval that it reads, or writes. -/
def rdI (x : Ins) : Int × Int := if rdB x.op then (x.b, x.c) else (0, 0)
def wrI (x : Ins) : Int × Int := if wrB x.op then (x.a, x.c) else (0, 0)
/-- It reads and writes where it may. -/
def covB (P S : Int) (x : Ins) : Bool := insB (rdI x).1 (rdI x).2 (S + 16 * P) && insB (wrI x).1 (wrI x).2 S
/-- The first error in the document's order. -/
def mrank (l : List Int) (cov : Bool) : Int := if l.contains 2 then 2 else if l.contains 4 then 4 else if l.contains 5 then 5 else if cov = false then 4 else if l.contains 6 then 6 else 0
def mfound (N C : Int) (x : Ins) : List Int := foundE (mopE N C (mshpOf x.op).1 x.a) (mopE N C (mshpOf x.op).2.1 x.b) (mopE N C (mshpOf x.op).2.2.1 x.c) (mshpOf x.op).2.2.2 x.imm
/-- The error of an instruction of a frame of a right shape. -/
def minsE (N : Nat) (f : Fm) (x : Ins) : Int := if exB x.op = false then 4 else mrank (mfound N f.code.length x) (covB f.params f.size x)
/-- The shape of a frame is right. -/
def shB (Al : Int) (f : Fm) : Bool := powB Al && (withB f.params 9 && (withB f.size 2147483520 && decide (f.size % Al = 0)))
/-- The error of a frame. -/
def fmE (Al : Int) (N : Nat) (f : Fm) : Int :=
  if shB Al f = false then 4
  else if 1024 < f.code.length then 3
  else if firstE (f.code.map (minsE N f)) ≠ 0 then firstE (f.code.map (minsE N f))
  else if closedB f.code = false then 6 else 0
/-- A frame has room for the parameters of what it calls. -/
def callB (F : Tg) (f : Fm) (x : Ins) : Bool := !(decide (x.op = 22) && decide (f.size < 16 * ((F[x.a.toNat]?).map Fm.params).getD 0))
def roomB (F : Tg) (f : Fm) : Bool := f.code.all (callB F f)
/-- The error of a target. -/
def tgE (Al : Int) (F : Tg) : Int :=
  if 80 < F.length then 3
  else match F with
    | [] => 4
    | f :: _ => if powB Al = false ∨ Al < 16 then 5 else if f.params ≠ 0 then 7 else if firstE (F.map (fmE Al F.length)) ≠ 0 then firstE (F.map (fmE Al F.length)) else if F.all (roomB F) then 0 else 7
/-- Imm fields of 64 bits. -/
def ImmT (F : Tg) : Prop := ∀ f ∈ F, ∀ x ∈ f.code, 0 ≤ x.imm ∧ x.imm ≤ 18446744073709551615
end Go.Proofs.YtlcmcmocjbeocaaGreatDoor
end

section
/-
  A target's error in the order in which it is looked for. No function of the program is named here.
-/
namespace Go.Proofs.YtlcmcmocjbeocaaGreatDoor
open Go.RowKit

theorem tgE_many {Al : Int} {F : Tg} (h : 80 < F.length) : tgE Al F = 3 := by unfold tgE; rw [if_pos h]
theorem tgE_align {Al : Int} {F : Tg} {f : Fm} (h : F.length ≤ 80) (hf : F[0]? = some f) (ha : powB Al = false ∨ Al < 16) : tgE Al F = 5 := by
  unfold tgE
  rw [if_neg (by omega)]
  cases F with
  | nil => simp at hf
  | cons g r => simp only; rw [if_pos ha]
theorem tgE_entry {Al : Int} {F : Tg} {f : Fm} (h : F.length ≤ 80) (hf : F[0]? = some f) (ha : powB Al = true ∧ 16 ≤ Al) (hp : f.params ≠ 0) : tgE Al F = 7 := by
  unfold tgE
  rw [if_neg (by omega)]
  cases F with
  | nil => simp at hf
  | cons g r =>
    simp at hf; subst hf
    simp only
    rw [if_neg (by rintro (h | h); exact absurd ha.1 (by simp [h]); omega), if_pos hp]
theorem tgE_rest {Al : Int} {F : Tg} {f : Fm} (h : F.length ≤ 80) (hf : F[0]? = some f) (ha : powB Al = true ∧ 16 ≤ Al) (hp : f.params = 0) : tgE Al F = if firstE (F.map (fmE Al F.length)) ≠ 0 then firstE (F.map (fmE Al F.length)) else if F.all (roomB F) then 0 else 7 := by
  unfold tgE
  rw [if_neg (by omega)]
  cases F with
  | nil => simp at hf
  | cons g r =>
    simp at hf; subst hf
    simp only
    rw [if_neg (by rintro (h | h); exact absurd ha.1 (by simp [h]); omega), if_neg (by simpa using hp)]
/-- What a frame without an error is. -/
theorem fmE_zero {Al : Int} {N : Nat} {f : Fm} (h : fmE Al N f = 0) : shB Al f = true ∧ f.code.length ≤ 1024 ∧ (∀ x ∈ f.code, minsE N f x = 0) ∧ closedB f.code = true := by
  unfold fmE at h
  have hf := @firstE_zero (f.code.map (minsE N f))
  simp only [List.mem_map, forall_exists_index, and_imp, forall_apply_eq_imp_iff₂] at hf
  by_cases h1 : shB Al f = true
  · rw [if_neg (by simp [h1])] at h
    by_cases h2 : 1024 < f.code.length
    · rw [if_pos h2] at h; omega
    · rw [if_neg h2] at h
      by_cases h3 : firstE (f.code.map (minsE N f)) = 0
      · rw [if_neg (by simpa using h3)] at h
        by_cases h4 : closedB f.code = true
        · exact ⟨h1, by omega, hf.1 h3, h4⟩
        · rw [if_pos (by simpa using h4)] at h; omega
      · rw [if_pos (by simpa using h3)] at h; exact absurd h h3
  · rw [if_pos (by simpa using h1)] at h; omega
/-- The errors of three operands, and of Imm. -/
theorem mopE_cases (N C k n : Int) : mopE N C k n = 0 ∨ mopE N C k n = 2 ∨ mopE N C k n = 4 ∨ mopE N C k n = 5 ∨ mopE N C k n = 6 := by unfold mopE; (repeat' split) <;> simp
theorem mrank_order {e1 e2 e3 imm : Int} {m cov : Bool} (c1 : e1 = 0 ∨ e1 = 2 ∨ e1 = 4 ∨ e1 = 5 ∨ e1 = 6) (c2 : e2 = 0 ∨ e2 = 2 ∨ e2 = 4 ∨ e2 = 5 ∨ e2 = 6) (c3 : e3 = 0 ∨ e3 = 2 ∨ e3 = 4 ∨ e3 = 5 ∨ e3 = 6) :
    mrank (foundE e1 e2 e3 m imm) cov = if e1 = 2 ∨ e2 = 2 ∨ e3 = 2 ∨ (m = false ∧ imm ≠ 0) then 2 else if e1 = 4 ∨ e2 = 4 ∨ e3 = 4 then 4 else if e1 = 5 ∨ e2 = 5 ∨ e3 = 5 then 5 else if cov = false then 4 else if e1 = 6 ∨ e2 = 6 ∨ e3 = 6 then 6 else 0 := by
  unfold foundE
  by_cases h : m = false ∧ imm ≠ 0
  · rw [if_pos h]
    simp [mrank, h]
  · rw [if_neg h]
    cases cov <;> rcases c1 with rfl | rfl | rfl | rfl | rfl <;> rcases c2 with rfl | rfl | rfl | rfl | rfl <;> rcases c3 with rfl | rfl | rfl | rfl | rfl <;> simp [mrank, h]
/-- A Call without an error names a frame. -/
theorem mins_call {N : Nat} {f : Fm} {x : Ins} (h : minsE N f x = 0) (h22 : x.op = 22) : 0 ≤ x.a ∧ x.a < N := by
  unfold minsE at h
  have he : exB x.op = true := by rw [h22]; rfl
  rw [if_neg (by simp [he])] at h
  unfold mfound at h
  rw [mrank_order (mopE_cases _ _ _ _) (mopE_cases _ _ _ _) (mopE_cases _ _ _ _)] at h
  by_cases hw : withB x.a N = true
  · exact withB_true.1 hw
  · exfalso
    have e1 : mopE N f.code.length (mshpOf x.op).1 x.a = 4 := by
      rw [h22]
      show mopE N f.code.length 4 x.a = 4
      unfold mopE
      simp [hw]
    split at h
    · omega
    · rw [if_pos (.inl e1)] at h; omega
end Go.Proofs.YtlcmcmocjbeocaaGreatDoor
end

section
/-
  Targets in memory: rows of frames, what lies behind them; kept over what a call leaves. No function of the program is named here.
-/
namespace Go.Proofs.YtlcmcmocjbeocaaGreatDoor
open Go.RowKit

/-- A frame, a target by value. -/
abbrev mv (P S : Int) (A : Option Addr) (n c : Nat) : Value := .agg #[.int .i64 P, .int .i64 S, .slice A n c]
abbrev tv (Al : Int) (A : Option Addr) (n c : Nat) : Value := .agg #[.int .i64 Al, .slice A n c]
/-- A frame's head. -/
structure Fd where
  p : Int
  s : Int
  a : Option Addr
  n : Nat
  c : Nat
def fdcell (h : Fd) : List Value := [.int .i64 h.p, .int .i64 h.s, .slice h.a h.n h.c]
def fdcells (l : List Fd) : List Value := l.flatMap fdcell
theorem fdcell_len (h : Fd) : (fdcell h).length = 3 := rfl
theorem fdcells_length (l : List Fd) : (fdcells l).length = l.length * 3 := flat_len fdcell_len l
theorem fdcells_append (l m : List Fd) : fdcells (l ++ m) = fdcells l ++ fdcells m := by simp [fdcells]
theorem fdcells_oneCell (l : List Fd) : ∀ v ∈ fdcells l, v.oneCell' = true := by
  intro v hv
  simp only [fdcells, List.mem_flatMap] at hv
  obtain ⟨x, _, hv⟩ := hv
  simp [fdcell] at hv
  rcases hv with rfl | rfl | rfl <;> rfl
/-- The head h is frame f: its code lies from block lo on, below B. -/
structure FdAt (w : World) (lo B : Nat) (h : Fd) (f : Fm) : Prop where
  p : h.p = f.params
  s : h.s = f.size
  l : f.code.length = h.n
  k : Cap h.a h.n h.c
  fr : Far lo h.a
  c : Sees w B h.a (icells f.code)
structure Fds (w : World) (lo B : Nat) (hs : List Fd) (F : Tg) : Prop where
  len : hs.length = F.length
  at_ : ∀ (k : Nat) (h : Fd) (f : Fm), hs[k]? = some h → F[k]? = some f → FdAt w lo B h f
/-- At the slice A, n, c stand the frames F. -/
structure TgAt (w : World) (lo B : Nat) (A : Option Addr) (n c : Nat) (hs : List Fd) (F : Tg) : Prop where
  len : F.length = n
  cap : Cap A n c
  far : Far lo A
  see : Sees w B A (fdcells hs)
  hd : Fds w lo B hs F

section
variable {w w' : World} {lo lo' B B' : Nat} {h : Fd} {f : Fm} {hs : List Fd} {F : Tg} {A : Option Addr} {n c : Nat}
theorem FdAt.keep (H : FdAt w lo B h f) (hk : ∀ p : Addr, lo ≤ p.block → p.block < B → w'.cell? p = w.cell? p) : FdAt w' lo B h f := ⟨H.p, H.s, H.l, H.k, H.fr, H.c.keepF H.fr hk⟩
theorem FdAt.more (H : FdAt w lo B h f) (hB : B ≤ B') (hl : lo' ≤ lo) : FdAt w lo' B' h f := ⟨H.p, H.s, H.l, H.k, H.fr.more hl, H.c.more hB⟩
theorem Fds.keep (H : Fds w lo B hs F) (hk : ∀ p : Addr, lo ≤ p.block → p.block < B → w'.cell? p = w.cell? p) : Fds w' lo B hs F := ⟨H.len, fun k h f e1 e2 => (H.at_ k h f e1 e2).keep hk⟩
theorem Fds.more (H : Fds w lo B hs F) (hB : B ≤ B') (hl : lo' ≤ lo) : Fds w lo' B' hs F := ⟨H.len, fun k h f e1 e2 => (H.at_ k h f e1 e2).more hB hl⟩
theorem TgAt.keep (H : TgAt w lo B A n c hs F) (hk : ∀ p : Addr, lo ≤ p.block → p.block < B → w'.cell? p = w.cell? p) : TgAt w' lo B A n c hs F := ⟨H.len, H.cap, H.far, H.see.keepF H.far hk, H.hd.keep hk⟩
theorem TgAt.more (H : TgAt w lo B A n c hs F) (hB : B ≤ B') (hl : lo' ≤ lo) : TgAt w lo' B' A n c hs F := ⟨H.len, H.cap, H.far.more hl, H.see.more hB, H.hd.more hB hl⟩
theorem TgAt.below (H : TgAt w lo B A n c hs F) (hb : Below B w w') : TgAt w' lo B A n c hs F := H.keep fun _ _ hp => hb.cell hp
theorem TgAt.call (H : TgAt w lo w.heap.size A n c hs F) (hb : Below w.heap.size w w') : TgAt w' lo w'.heap.size A n c hs F := (H.below hb).more hb.size (Nat.le_refl _)
theorem TgAt.drewN (H : TgAt w lo B A n c hs F) (k : Nat) : TgAt (w.drewN k) lo B A n c hs F := H.keep fun _ _ _ => rfl
theorem TgAt.alloc (H : TgAt w lo w.heap.size A n c hs F) (o : Obj) : TgAt (w.alloc o) lo (w.alloc o).heap.size A n c hs F := H.call (below1 w o)
theorem TgAt.grown {g : Nat} (H : TgAt w lo B A n c hs F) (hg : w.grownBy w' (some g)) (hlo : g < lo) (hB : B ≤ w.heap.size) : TgAt w' lo B A n c hs F :=
  H.keep fun p h1 h2 => World.cell?_of_block (hg.block p.block (by omega) (fun e => by injection e with e; omega))
theorem FdAt.below (H : FdAt w lo B h f) (hb : Below B w w') : FdAt w' lo B h f := H.keep fun _ _ hp => hb.cell hp
theorem FdAt.grown {g : Nat} (H : FdAt w lo B h f) (hg : w.grownBy w' (some g)) (hlo : g < lo) (hB : B ≤ w.heap.size) : FdAt w' lo B h f :=
  H.keep fun p h1 h2 => World.cell?_of_block (hg.block p.block (by omega) (fun e => by injection e with e; omega))
/-- The head at place k, and where it stands. -/
theorem fd_at {l : List Fd} {k : Nat} (h : Sees w B A (fdcells l)) (hk : k < l.length) :
    ∃ b off, A = some ⟨b, off, none⟩ ∧ b < B ∧ w.cell? ⟨b, off + k * 3, none⟩ = some (.int .i64 l[k].p) ∧ w.cell? ⟨b, off + k * 3 + 1, none⟩ = some (.int .i64 l[k].s) ∧ w.cell? ⟨b, off + k * 3 + 2, none⟩ = some (.slice l[k].a l[k].n l[k].c) := by
  have hx := List.getElem?_eq_getElem hk
  have g := fun j hj => flat_at fdcell_len l k _ hx j hj
  obtain ⟨b, off, e, hb, h0⟩ := h _ _ (g 0 (by omega))
  obtain ⟨b1, o1, e1, _, h1⟩ := h _ _ (g 1 (by omega))
  obtain ⟨b2, o2, e2, _, h2⟩ := h _ _ (g 2 (by omega))
  subst e
  injection e1 with e1; injection e1 with x1 y1; subst x1 y1
  injection e2 with e2; injection e2 with x2 y2; subst x2 y2
  exact ⟨b, off, rfl, hb, h0, h1, h2⟩
/-- Frame k of a target: where its head stands, and that it is it. -/
theorem fm_at {k : Nat} (H : TgAt w lo B A n c hs F) (hk : k < n) :
    ∃ (b off : Nat) (P S : Int) (A1 : Option Addr) (n1 c1 : Nat) (f : Fm), A = some ⟨b, off, none⟩ ∧ b < B ∧ F[k]? = some f ∧ hs[k]? = some ⟨P, S, A1, n1, c1⟩ ∧ FdAt w lo B ⟨P, S, A1, n1, c1⟩ f ∧
      w.cell? ⟨b, off + k * 3, none⟩ = some (.int .i64 P) ∧ w.cell? ⟨b, off + k * 3 + 1, none⟩ = some (.int .i64 S) ∧ w.cell? ⟨b, off + k * 3 + 2, none⟩ = some (.slice A1 n1 c1) := by
  have h1 : k < F.length := by rw [H.len]; exact hk
  have h2 : k < hs.length := by rw [H.hd.len]; exact h1
  obtain ⟨b, off, e, hb, c0, c1, c2⟩ := fd_at H.see h2
  exact ⟨b, off, _, _, _, _, _, F[k], e, hb, List.getElem?_eq_getElem h1, List.getElem?_eq_getElem h2, H.hd.at_ k _ _ (List.getElem?_eq_getElem h2) (List.getElem?_eq_getElem h1), c0, c1, c2⟩
/-- The same at a place that both lists name. -/
theorem fm_at' {k : Nat} {f : Fm} {P S : Int} {A1 : Option Addr} {n1 c1 : Nat} (H : TgAt w lo B A n c hs F) (hf : F[k]? = some f) (hh : hs[k]? = some ⟨P, S, A1, n1, c1⟩) :
    ∃ (b off : Nat), A = some ⟨b, off, none⟩ ∧ b < B ∧ FdAt w lo B ⟨P, S, A1, n1, c1⟩ f ∧
      w.cell? ⟨b, off + k * 3, none⟩ = some (.int .i64 P) ∧ w.cell? ⟨b, off + k * 3 + 1, none⟩ = some (.int .i64 S) ∧ w.cell? ⟨b, off + k * 3 + 2, none⟩ = some (.slice A1 n1 c1) := by
  have hk : k < n := by rw [← H.len]; exact (List.getElem?_eq_some_iff.1 hf).1
  obtain ⟨b, off, _, _, _, _, _, _, e, hb, e1, e2, h, c0, c1, c2⟩ := fm_at H hk
  rw [hf] at e1; injection e1 with e1; subst e1
  rw [hh] at e2; injection e2 with e2; injection e2 with x1 x2 x3 x4 x5; subst x1 x2 x3 x4 x5
  exact ⟨b, off, e, hb, h, c0, c1, c2⟩
end
end Go.Proofs.YtlcmcmocjbeocaaGreatDoor
end

section
/-
  Boxes, one behind the other. No function of the program is named here.
-/
namespace Go.Proofs.YtlcmcmocjbeocaaGreatDoor
open Go.RowKit

theorem below4 (w : World) (o p q r : Obj) : Below w.heap.size w ((((w.alloc o).alloc p).alloc q).alloc r) := (below3 w o p q).alloc (by simp; omega) _
/-- Three boxes, one behind the other. -/
theorem boxes3 (w : World) (l1 l2 l3 : List Value) (t1 t2 t3 : TypeId) : ∃ W, ((w.alloc (.cells l1.toArray t1)).alloc (.cells l2.toArray t2)).alloc (.cells l3.toArray t3) = W ∧ Below w.heap.size w W ∧ w.heap.size + 3 = W.heap.size ∧
    Row W w.heap.size t1 l1 ∧ Row W (w.heap.size + 1) t2 l2 ∧ Row W (w.heap.size + 1 + 1) t3 l3 := by
  refine ⟨_, rfl, below3 _ _ _ _, by simp, ((Row.new w t1 l1).alloc _).alloc _, (Row.alloc ?_ _), ?_⟩
  · exact heap_at _ _ (by simp)
  · exact heap_at _ _ (by simp)

/-- Four boxes, one behind the other. -/
theorem boxes4 (w : World) (l1 l2 l3 l4 : List Value) (t1 t2 t3 t4 : TypeId) : ∃ W, (((w.alloc (.cells l1.toArray t1)).alloc (.cells l2.toArray t2)).alloc (.cells l3.toArray t3)).alloc (.cells l4.toArray t4) = W ∧ Below w.heap.size w W ∧ w.heap.size + 4 = W.heap.size ∧
    Row W w.heap.size t1 l1 ∧ Row W (w.heap.size + 1) t2 l2 ∧ Row W (w.heap.size + 1 + 1) t3 l3 ∧ Row W (w.heap.size + 1 + 1 + 1) t4 l4 := by
  refine ⟨_, rfl, below4 _ _ _ _ _, by simp, (((Row.new w t1 l1).alloc _).alloc _).alloc _, (Row.alloc (Row.alloc ?_ _) _), (Row.alloc ?_ _), ?_⟩
  · exact heap_at _ _ (by simp)
  · exact heap_at _ _ (by simp)
  · exact heap_at _ _ (by simp)

/-- Two boxes, one behind the other. -/
theorem boxes2q (w : World) (l1 l2 : List Value) (t1 t2 : TypeId) : ∃ W, (w.alloc (.cells l1.toArray t1)).alloc (.cells l2.toArray t2) = W ∧ Below w.heap.size w W ∧ w.heap.size + 2 = W.heap.size ∧ Row W w.heap.size t1 l1 ∧ Row W (w.heap.size + 1) t2 l2 := by
  refine ⟨_, rfl, below2 _ _ _, by simp, (Row.new w t1 l1).alloc _, ?_⟩
  exact heap_at _ _ (by simp)
end Go.Proofs.YtlcmcmocjbeocaaGreatDoor
end

section
/-
  The contract of mach.passesArguments at a frame that there is: whether it has room for the parameters of what it calls. Conditions: each Call names a frame, and each frame has at most 8 parameters.
-/
namespace Go.Proofs.YtlcmcmocjbeocaaGreatDoor
open Go.RowKit

theorem roomB_no {F : Tg} {f : Fm} {k : Nat} (hk : k < f.code.length) (h : callB F f f.code[k] = false) : roomB F f = false := by
  unfold roomB
  rw [List.all_eq_false]
  exact ⟨_, List.getElem_mem hk, by simp [h]⟩
theorem roomB_yes {F : Tg} {f : Fm} (h : ∀ j (hj : j < f.code.length), callB F f f.code[j] = true) : roomB F f = true := by
  unfold roomB
  rw [List.all_eq_true]
  intro x hx
  obtain ⟨j, hj, rfl⟩ := List.mem_iff_getElem.1 hx
  exact h j hj
theorem callB_other {F : Tg} {f : Fm} {x : Ins} (h : x.op ≠ 22) : callB F f x = true := by unfold callB; rw [decide_eq_false h]; rfl
theorem callB_at {F : Tg} {f g : Fm} {x : Ins} {j : Nat} (h : x.op = 22) (ha : x.a = (j : Int)) (hg : F[j]? = some g) : callB F f x = decide (16 * g.params ≤ f.size) := by
  unfold callB
  rw [decide_eq_true h, ha, Int.toNat_natCast, hg]
  simp only [Option.map_some, Option.getD_some, Bool.true_and]
  rw [← decide_not]
  exact decide_eq_decide.2 (by omega)

set_option maxHeartbeats 2000000 in
theorem passes_any (Al : Int) (A : Option Addr) (n c : Nat) (hs : List Fd) (F : Tg) (lo B i : Nat) (f : Fm) (w : World) (H : Hid (TgAt w lo B A n c hs F)) (hB : B ≤ w.heap.size) (hf : Hid (F[i]? = some f))
    (hcall : Hid (∀ x ∈ f.code, x.op = 22 → 0 ≤ x.a ∧ x.a < n)) (hpar : Hid (∀ g ∈ F, 0 ≤ g.params ∧ g.params ≤ 8)) :
    Calls Tryz.prog 95 #[tv Al A n c, .int .i64 (i : Int)] w fun e w' => e = .returned (.bool (roomB F f)) ∧ Below w.heap.size w w' := by
  have hin : i < n := by rw [← H.out.len]; exact (List.getElem?_eq_some_iff.1 hf.out).1
  obtain ⟨b, off, P, S, A1, n1, c1, f', rfl, hb, e1, hh, h, p0, p1, p2⟩ := fm_at H.out hin
  obtain rfl : f' = f := by rw [hf.out] at e1; injection e1 with e1; exact e1.symm
  clear e1
  have hn := H.out.cap.2.2
  have HL := hide (show f'.code.length = n1 from h.l)
  have HS := hide (show S = f'.size from h.s)
  have HC := hide h.c
  have hn1 : n1 ≤ 8796093022208 := h.k.2.2
  have R0 := Row.new w 53 [.int .i64 Al, .slice (some ⟨b, off, none⟩) n c]
  have hb1 := below1 w (.cells #[.int .i64 Al, .slice (some ⟨b, off, none⟩) n c] 53)
  obtain ⟨W1, hW1⟩ : ∃ V, w.alloc (.cells #[.int .i64 Al, .slice (some ⟨b, off, none⟩) n c] 53) = V := ⟨_, rfl⟩
  rw [show ([.int .i64 Al, .slice (some ⟨b, off, none⟩) n c] : List Value).toArray = #[.int .i64 Al, .slice (some ⟨b, off, none⟩) n c] from rfl, hW1] at R0
  rw [hW1] at hb1
  have hbw : b < w.heap.size := by omega
  have q0 := (hb1.cell (p := ⟨b, off + i * 3, none⟩) hbw).trans p0
  have q1 := (hb1.cell (p := ⟨b, off + i * 3 + 1, none⟩) hbw).trans p1
  have q2 := (hb1.cell (p := ⟨b, off + i * 3 + 2, none⟩) hbw).trans p2
  have hs1 : w.heap.size + 1 = W1.heap.size := by rw [← hW1]; simp
  have HW1 := hide hW1
  have HB1 := hide hb1
  have HR0 := hide R0
  have t1 := R0.cell (k := 1) rfl
  have hiz : (0 : Int) ≤ (i : Int) := by omega
  have hiz' : (i : Int) < (n : Int) := by omega
  clear h hh hW1 hb1 R0 p0 p1 p2
  go_enter Tryz.func95, Tryz.ntmps95
  go_upto_region 1 with (fail)
  rw [HW1.out]
  clear HW1
  go_upto_region 2 with (fail)
  obtain ⟨W3, hW3⟩ : ∃ V, W1.alloc (.cells #[.int .i64 P, .int .i64 S, .slice A1 n1 c1] 90) = V := ⟨_, rfl⟩
  have R3 := hide (show Row W3 W1.heap.size 90 [.int .i64 P, .int .i64 S, .slice A1 n1 c1] by rw [← hW3]; exact Row.new W1 _ _)
  have T3 := hide (show Row W3 w.heap.size 53 [.int .i64 Al, .slice (some ⟨b, off, none⟩) n c] by rw [← hW3]; exact HR0.out.alloc _)
  have HB3 := hide (show Below w.heap.size w W3 by rw [← hW3]; exact HB1.out.alloc HB1.out.size _)
  rw [hW3]
  obtain ⟨g, hg⟩ : ∃ g, W1.heap.size = g := ⟨_, rfl⟩
  rw [hg] at R3 ⊢
  clear hW3 hg t1 q0 q1 q2 HB1 HR0 hs1
  have x2 := R3.out.cell (k := 2) rfl
  go_wp2_with fail
  clear x2
  go_loopw [16] (fun s wr => ∃ k : Nat, k ≤ n1 ∧ s = .int .i64 k ∧ Hid (∀ j (hj : j < f'.code.length), j < k → callB F f' f'.code[j] = true) ∧ Hid (Below W3.heap.size W3 wr)) (fun s _ => n1 - (intOf s).toNat)
  case atStart => exact ⟨0, by omega, rfl, hide (fun j hj h => by omega), hide (Below.refl _ _)⟩
  case round =>
    obtain ⟨k, hk, rfl, hno, hbr⟩ := hrel
    by_cases hlt : k < n1
    · have HB4 := hide (HB3.out.trans (hbr.out.mono HB3.out.size))
      have R4 := hide (R3.out.call hbr.out)
      have T4 := hide (T3.out.call hbr.out)
      have hkl : k < f'.code.length := by have := HL.out; omega
      obtain ⟨bb, oo, rfl, hbb, x0, x1, x2, x3, x4⟩ := ins_at (HC.out.below (HB4.out.mono hB)) hkl
      have HNO := hide (fun (h : callB F f' f'.code[k] = false) => roomB_no hkl h)
      have HCA := hide (hcall.out _ (List.getElem_mem hkl))
      obtain ⟨x, hx⟩ : ∃ x, f'.code[k] = x := ⟨_, rfl⟩
      have HX := hide hx
      rw [hx] at HNO HCA x0 x1 x2 x3 x4
      obtain ⟨o, a, b', d, m⟩ := x
      simp only at x0 x1 x2 x3 x4
      have hkz : (0 : Int) ≤ (k : Int) := by omega
      have hkz' : (k : Int) < (n1 : Int) := by omega
      clear hx
      go_upto_region 5 with (fail)
      obtain ⟨W5, hW5⟩ : ∃ V, wr.alloc (.cells #[.int .i64 o, .int .i64 a, .int .i64 b', .int .i64 d, .int .u64 m] 64) = V := ⟨_, rfl⟩
      have R5 := hide (show Row W5 g 90 [.int .i64 P, .int .i64 S, .slice (some ⟨bb, oo, none⟩) n1 c1] by rw [← hW5]; exact R4.out.alloc _)
      have T5 := hide (show Row W5 w.heap.size 53 [.int .i64 Al, .slice (some ⟨b, off, none⟩) n c] by rw [← hW5]; exact T4.out.alloc _)
      have Z5 := hide (show Row W5 wr.heap.size 64 [.int .i64 o, .int .i64 a, .int .i64 b', .int .i64 d, .int .u64 m] by rw [← hW5]; exact Row.new wr _ _)
      have HB5 := hide (show Below W3.heap.size W3 W5 by rw [← hW5]; exact hbr.out.alloc hbr.out.size _)
      rw [hW5]
      obtain ⟨g2, hg2⟩ : ∃ g, wr.heap.size = g := ⟨_, rfl⟩
      rw [hg2] at Z5 ⊢
      clear hW5 hg2 x0 x1 x2 x3 x4 R4 T4
      have HBW := hide (HB3.out.trans (HB5.out.mono HB3.out.size))
      have f1 := R5.out.cell (k := 1) rfl
      have t1 := T5.out.cell (k := 1) rfl
      have z0 := Z5.out.cell (k := 0) rfl
      have z1 := Z5.out.cell (k := 1) rfl
      by_cases h22 : o = 22
      · subst h22
        obtain ⟨a0, a1⟩ := HCA.out rfl
        simp only at a0 a1
        obtain ⟨j, rfl⟩ := Int.eq_ofNat_of_zero_le a0
        obtain ⟨b2, o2, P2, S2, A2, n2, c2, f2, e, -, hf2, -, hd2, y0, -, -⟩ := fm_at (H.out.below (HBW.out.mono hB)) (k := j) (by omega)
        injection e with e
        injection e with e1 e2
        subst e1 e2
        have hP2 : P2 = f2.params := hd2.p
        obtain ⟨P20, P21⟩ := hpar.out f2 (List.mem_of_getElem? hf2)
        rw [← hP2] at P20 P21
        have HCB := hide (show callB F f' ⟨22, (j : Int), b', d, m⟩ = decide (16 * P2 ≤ S) by rw [callB_at rfl rfl hf2, ← hP2, HS.out])
        have e16 : IntKind.i64.wrap (16 * P2) = 16 * P2 := wrap_i64 _ (by omega) (by omega)
        clear hf2 hd2 hP2
        by_cases hgt : S < 16 * P2
        · have hd : decide (S < 16 * P2) = true := decide_eq_true hgt
          have HR := hide (HNO.out (by rw [HCB.out]; exact decide_eq_false (by omega)))
          go_quiet (fail)
          go_wp2_with fail
          go_ret
          exact ⟨ret_bool HR.out.symm, drewN_below HBW.out _⟩
        · have hd : decide (S < 16 * P2) = false := decide_eq_false hgt
          have HT := hide (show callB F f' ⟨22, (j : Int), b', d, m⟩ = true by rw [HCB.out]; exact decide_eq_true (by omega))
          go_quiet (fail)
          go_wp2_with fail
          go_roundw
          case rel =>
            refine ⟨k + 1, by omega, by go_num, hide fun q hq hqk => ?_, hide (drewN_below HB5.out _)⟩
            by_cases e : q = k
            · subst e; rw [HX.out]; exact HT.out
            · exact hno.out q hq (by omega)
          case measure => simp [intOf]; omega
      · have hne : (o == 22) = false := by simpa using h22
        have HT := hide (callB_other (F := F) (f := f') (x := ⟨o, a, b', d, m⟩) h22)
        clear h22
        go_quiet (fail)
        go_wp2_with fail
        go_roundw
        case rel =>
          refine ⟨k + 1, by omega, by go_num, hide fun q hq hqk => ?_, hide (drewN_below HB5.out _)⟩
          by_cases e : q = k
          · subst e; rw [HX.out]; exact HT.out
          · exact hno.out q hq (by omega)
        case measure => simp [intOf]; omega
    · obtain rfl : k = n1 := by omega
      have HE := hide (roomB_yes (F := F) (f := f') (fun j hj => hno.out j hj (by have := HL.out; omega)))
      go_wp2_with fail
      go_ret
      exact ⟨ret_bool HE.out.symm, HB3.out.trans (hbr.out.mono HB3.out.size)⟩
end Go.Proofs.YtlcmcmocjbeocaaGreatDoor
end

section
/-
  What a target without error keeps: its frames' bounds, that each instruction reads and writes where it may, that each caller has room. No function of the program is named here.
-/
namespace Go.Proofs.YtlcmcmocjbeocaaGreatDoor
open Go.RowKit

theorem tgE_ok {Al : Int} {F : Tg} (h : tgE Al F = 0) : firstE (F.map (fmE Al F.length)) = 0 ∧ F.all (roomB F) = true := by
  unfold tgE at h
  by_cases h1 : 80 < F.length
  · rw [if_pos h1] at h; omega
  · rw [if_neg h1] at h
    cases F with
    | nil => simp at h
    | cons f r =>
      simp only at h
      by_cases h2 : powB Al = false ∨ Al < 16
      · rw [if_pos h2] at h; omega
      · rw [if_neg h2] at h
        by_cases h3 : f.params ≠ 0
        · rw [if_pos h3] at h; omega
        · rw [if_neg h3] at h
          by_cases h4 : firstE ((f :: r).map (fmE Al (f :: r).length)) ≠ 0
          · rw [if_pos h4] at h; exact absurd h h4
          · rw [if_neg h4] at h
            refine ⟨Decidable.not_not.1 h4, ?_⟩
            by_cases h5 : (f :: r).all (roomB (f :: r)) = true
            · exact h5
            · rw [if_neg h5] at h; omega
theorem mins_cov {N : Nat} {f : Fm} {x : Ins} (h : minsE N f x = 0) : covB f.params f.size x = true := by
  unfold minsE at h
  by_cases he : exB x.op = false
  · rw [if_pos he] at h; omega
  · rw [if_neg he] at h
    unfold mrank at h
    cases hc : covB f.params f.size x with
    | true => rfl
    | false =>
      exfalso
      rw [hc] at h
      revert h
      (repeat' split) <;> simp_all
/-- What one instruction keeps: what it reads and writes lies where it may. -/
structure InsOk (F : Tg) (f : Fm) (x : Ins) : Prop where
  r : rdB x.op = true → 0 ≤ x.b ∧ 0 ≤ x.c ∧ x.b + x.c ≤ 2147483647 ∧ x.b + x.c ≤ f.size + 16 * f.params
  w : wrB x.op = true → 0 ≤ x.a ∧ 0 ≤ x.c ∧ x.a + x.c ≤ 2147483647 ∧ x.a + x.c ≤ f.size
  c : x.op = 22 → 0 ≤ x.a ∧ x.a < (F.length : Int) ∧ callB F f x = true
theorem tgE_ins {Al : Int} {F : Tg} (h : tgE Al F = 0) : ∀ f ∈ F, ((0 ≤ f.params ∧ f.params ≤ 8) ∧ (0 ≤ f.size ∧ f.size ≤ 2147483519)) ∧ ∀ x ∈ f.code, InsOk F f x := by
  obtain ⟨h1, h2⟩ := tgE_ok h
  intro f hf
  have hz := fmE_zero (firstE_zero.1 h1 _ (List.mem_map.2 ⟨f, hf, rfl⟩))
  have hs := hz.1
  unfold shB at hs
  simp only [Bool.and_eq_true] at hs
  have b1 := withB_true.1 hs.2.1
  have b2 := withB_true.1 hs.2.2.1
  refine ⟨by omega, fun x hx => ?_⟩
  have hm := hz.2.2.1 x hx
  have hc := mins_cov hm
  unfold covB at hc
  rw [Bool.and_eq_true] at hc
  obtain ⟨c1, c2⟩ := hc
  unfold insB at c1 c2
  rw [Bool.and_eq_true, rightB_iff, decide_eq_true_eq] at c1 c2
  refine ⟨fun hr => ?_, fun hw => ?_, fun h22 => ?_⟩
  · unfold rdI at c1
    rw [hr] at c1
    simp at c1
    omega
  · unfold wrI at c2
    rw [hw] at c2
    simp at c2
    omega
  · have ha := mins_call hm h22
    have hr := List.all_eq_true.1 h2 f hf
    unfold roomB at hr
    exact ⟨ha.1, ha.2, List.all_eq_true.1 hr x hx⟩
end Go.Proofs.YtlcmcmocjbeocaaGreatDoor
end
