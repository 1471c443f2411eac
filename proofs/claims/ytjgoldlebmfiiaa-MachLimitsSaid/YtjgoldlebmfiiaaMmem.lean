/-
  Targets in memory: rows of frames, what lies behind them; kept over what a call leaves. No function of the program is named here.
-/
import Derived.Test.YtjgoldlebmfiiaaMmath
namespace Go.Proofs.Ytjgoldlebmfiiaa
open Go.RowKit

/-- A frame, a target by value. -/
abbrev mv (P S : Int) (A : Option Addr) (n c : Nat) : Value := .agg #[.int .i64 P, .int .i64 S, .slice A n c]
abbrev tv (Al : Int) (A : Option Addr) (n c : Nat) : Value := .agg #[.int .i64 Al, .slice A n c]
/-- A frame's head. -/
structure Fd where
  p : Int
  s : Int
  a : Option Addr
  n : Nat
  c : Nat
def fdcell (h : Fd) : List Value := [.int .i64 h.p, .int .i64 h.s, .slice h.a h.n h.c]
def fdcells (l : List Fd) : List Value := l.flatMap fdcell
theorem fdcell_len (h : Fd) : (fdcell h).length = 3 := rfl
theorem fdcells_length (l : List Fd) : (fdcells l).length = l.length * 3 := flat_len fdcell_len l
theorem fdcells_append (l m : List Fd) : fdcells (l ++ m) = fdcells l ++ fdcells m := by simp [fdcells]
theorem fdcells_oneCell (l : List Fd) : ∀ v ∈ fdcells l, v.oneCell' = true := by
  intro v hv
  simp only [fdcells, List.mem_flatMap] at hv
  obtain ⟨x, _, hv⟩ := hv
  simp [fdcell] at hv
  rcases hv with rfl | rfl | rfl <;> rfl
/-- The head h is frame f: its code lies from block lo on, below B. -/
structure FdAt (w : World) (lo B : Nat) (h : Fd) (f : Fm) : Prop where
  p : h.p = f.params
  s : h.s = f.size
  l : f.code.length = h.n
  k : Cap h.a h.n h.c
  fr : Far lo h.a
  c : Sees w B h.a (icells f.code)
structure Fds (w : World) (lo B : Nat) (hs : List Fd) (F : Tg) : Prop where
  len : hs.length = F.length
  at_ : ∀ (k : Nat) (h : Fd) (f : Fm), hs[k]? = some h → F[k]? = some f → FdAt w lo B h f
/-- At the slice A, n, c stand the frames F. -/
structure TgAt (w : World) (lo B : Nat) (A : Option Addr) (n c : Nat) (hs : List Fd) (F : Tg) : Prop where
  len : F.length = n
  cap : Cap A n c
  far : Far lo A
  see : Sees w B A (fdcells hs)
  hd : Fds w lo B hs F

section
variable {w w' : World} {lo lo' B B' : Nat} {h : Fd} {f : Fm} {hs : List Fd} {F : Tg} {A : Option Addr} {n c : Nat}
theorem FdAt.keep (H : FdAt w lo B h f) (hk : ∀ p : Addr, lo ≤ p.block → p.block < B → w'.cell? p = w.cell? p) : FdAt w' lo B h f := ⟨H.p, H.s, H.l, H.k, H.fr, H.c.keepF H.fr hk⟩
theorem FdAt.more (H : FdAt w lo B h f) (hB : B ≤ B') (hl : lo' ≤ lo) : FdAt w lo' B' h f := ⟨H.p, H.s, H.l, H.k, H.fr.more hl, H.c.more hB⟩
theorem Fds.keep (H : Fds w lo B hs F) (hk : ∀ p : Addr, lo ≤ p.block → p.block < B → w'.cell? p = w.cell? p) : Fds w' lo B hs F := ⟨H.len, fun k h f e1 e2 => (H.at_ k h f e1 e2).keep hk⟩
theorem Fds.more (H : Fds w lo B hs F) (hB : B ≤ B') (hl : lo' ≤ lo) : Fds w lo' B' hs F := ⟨H.len, fun k h f e1 e2 => (H.at_ k h f e1 e2).more hB hl⟩
theorem TgAt.keep (H : TgAt w lo B A n c hs F) (hk : ∀ p : Addr, lo ≤ p.block → p.block < B → w'.cell? p = w.cell? p) : TgAt w' lo B A n c hs F := ⟨H.len, H.cap, H.far, H.see.keepF H.far hk, H.hd.keep hk⟩
theorem TgAt.more (H : TgAt w lo B A n c hs F) (hB : B ≤ B') (hl : lo' ≤ lo) : TgAt w lo' B' A n c hs F := ⟨H.len, H.cap, H.far.more hl, H.see.more hB, H.hd.more hB hl⟩
theorem TgAt.below (H : TgAt w lo B A n c hs F) (hb : Below B w w') : TgAt w' lo B A n c hs F := H.keep fun _ _ hp => hb.cell hp
theorem TgAt.call (H : TgAt w lo w.heap.size A n c hs F) (hb : Below w.heap.size w w') : TgAt w' lo w'.heap.size A n c hs F := (H.below hb).more hb.size (Nat.le_refl _)
theorem TgAt.drewN (H : TgAt w lo B A n c hs F) (k : Nat) : TgAt (w.drewN k) lo B A n c hs F := H.keep fun _ _ _ => rfl
theorem TgAt.alloc (H : TgAt w lo w.heap.size A n c hs F) (o : Obj) : TgAt (w.alloc o) lo (w.alloc o).heap.size A n c hs F := H.call (below1 w o)
theorem TgAt.grown {g : Nat} (H : TgAt w lo B A n c hs F) (hg : w.grownBy w' (some g)) (hlo : g < lo) (hB : B ≤ w.heap.size) : TgAt w' lo B A n c hs F :=
  H.keep fun p h1 h2 => World.cell?_of_block (hg.block p.block (by omega) (fun e => by injection e with e; omega))
theorem FdAt.below (H : FdAt w lo B h f) (hb : Below B w w') : FdAt w' lo B h f := H.keep fun _ _ hp => hb.cell hp
theorem FdAt.grown {g : Nat} (H : FdAt w lo B h f) (hg : w.grownBy w' (some g)) (hlo : g < lo) (hB : B ≤ w.heap.size) : FdAt w' lo B h f :=
  H.keep fun p h1 h2 => World.cell?_of_block (hg.block p.block (by omega) (fun e => by injection e with e; omega))
/-- The head at place k, and where it stands. -/
theorem fd_at {l : List Fd} {k : Nat} (h : Sees w B A (fdcells l)) (hk : k < l.length) :
    ∃ b off, A = some ⟨b, off, none⟩ ∧ b < B ∧ w.cell? ⟨b, off + k * 3, none⟩ = some (.int .i64 l[k].p) ∧ w.cell? ⟨b, off + k * 3 + 1, none⟩ = some (.int .i64 l[k].s) ∧ w.cell? ⟨b, off + k * 3 + 2, none⟩ = some (.slice l[k].a l[k].n l[k].c) := by
  have hx := List.getElem?_eq_getElem hk
  have g := fun j hj => flat_at fdcell_len l k _ hx j hj
  obtain ⟨b, off, e, hb, h0⟩ := h _ _ (g 0 (by omega))
  obtain ⟨b1, o1, e1, _, h1⟩ := h _ _ (g 1 (by omega))
  obtain ⟨b2, o2, e2, _, h2⟩ := h _ _ (g 2 (by omega))
  subst e
  injection e1 with e1; injection e1 with x1 y1; subst x1 y1
  injection e2 with e2; injection e2 with x2 y2; subst x2 y2
  exact ⟨b, off, rfl, hb, h0, h1, h2⟩
/-- Frame k of a target: where its head stands, and that it is it. -/
theorem fm_at {k : Nat} (H : TgAt w lo B A n c hs F) (hk : k < n) :
    ∃ (b off : Nat) (P S : Int) (A1 : Option Addr) (n1 c1 : Nat) (f : Fm), A = some ⟨b, off, none⟩ ∧ b < B ∧ F[k]? = some f ∧ hs[k]? = some ⟨P, S, A1, n1, c1⟩ ∧ FdAt w lo B ⟨P, S, A1, n1, c1⟩ f ∧
      w.cell? ⟨b, off + k * 3, none⟩ = some (.int .i64 P) ∧ w.cell? ⟨b, off + k * 3 + 1, none⟩ = some (.int .i64 S) ∧ w.cell? ⟨b, off + k * 3 + 2, none⟩ = some (.slice A1 n1 c1) := by
  have h1 : k < F.length := by rw [H.len]; exact hk
  have h2 : k < hs.length := by rw [H.hd.len]; exact h1
  obtain ⟨b, off, e, hb, c0, c1, c2⟩ := fd_at H.see h2
  exact ⟨b, off, _, _, _, _, _, F[k], e, hb, List.getElem?_eq_getElem h1, List.getElem?_eq_getElem h2, H.hd.at_ k _ _ (List.getElem?_eq_getElem h2) (List.getElem?_eq_getElem h1), c0, c1, c2⟩
/-- The same at a place that both lists name. -/
theorem fm_at' {k : Nat} {f : Fm} {P S : Int} {A1 : Option Addr} {n1 c1 : Nat} (H : TgAt w lo B A n c hs F) (hf : F[k]? = some f) (hh : hs[k]? = some ⟨P, S, A1, n1, c1⟩) :
    ∃ (b off : Nat), A = some ⟨b, off, none⟩ ∧ b < B ∧ FdAt w lo B ⟨P, S, A1, n1, c1⟩ f ∧
      w.cell? ⟨b, off + k * 3, none⟩ = some (.int .i64 P) ∧ w.cell? ⟨b, off + k * 3 + 1, none⟩ = some (.int .i64 S) ∧ w.cell? ⟨b, off + k * 3 + 2, none⟩ = some (.slice A1 n1 c1) := by
  have hk : k < n := by rw [← H.len]; exact (List.getElem?_eq_some_iff.1 hf).1
  obtain ⟨b, off, _, _, _, _, _, _, e, hb, e1, e2, h, c0, c1, c2⟩ := fm_at H hk
  rw [hf] at e1; injection e1 with e1; subst e1
  rw [hh] at e2; injection e2 with e2; injection e2 with x1 x2 x3 x4 x5; subst x1 x2 x3 x4 x5
  exact ⟨b, off, e, hb, h, c0, c1, c2⟩
end
end Go.Proofs.Ytjgoldlebmfiiaa
