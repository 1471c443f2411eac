import Derived.Test.YtidlnecgfgnllaaDoorMDbody
import Derived.Test.YtidlnecgfgnllaaDoorMDslots
import Derived.Test.YtidlnecgfgnllaaDoorMFgr
import Derived.Deep.DeepCutAuto
import Derived.Deep.RegionHeld3
import Derived.Deep.DrawnRows
import Derived.BigQuiet
import Derived.Outline
import Derived.Deep.LoopGhost
import Derived.Deep.RegionWith
set_option linter.unusedVariables false
set_option linter.unusedSimpArgs false
section
/-
  The contract of spillframedraw's function: a right function that calls later ones alone. Conditions: the receiver is a list of choices; the parameters' numbers lie behind it.
-/
namespace Go.Proofs.YtidlnecgfgnllaaDoor
open Go.RowKit

theorem gcell {W w1 : World} {g : Nat} (h : W.grownBy w1 (some g)) : (∀ b o, b < W.heap.size → b ≠ g → w1.cell? ⟨b, o, none⟩ = W.cell? ⟨b, o, none⟩) ∧ (∀ b o, b < W.heap.size → b ≠ g → w1.frozen? ⟨b, o, none⟩ = W.frozen? ⟨b, o, none⟩) :=
  ⟨fun b o hb hn => World.cell?_of_block (h.block b hb (fun e => by injection e with e; exact hn e)), fun b o hb hn => World.frozen?_of_block (h.block b hb (fun e => by injection e with e; exact hn e))⟩

theorem keep3 {w1 : World} {b o F : Nat} {v x y z : Value} (h : w1.cell? ⟨b, o, none⟩ = some v) (hb : b ≠ F) : (((w1.setCell ⟨F, 0, none⟩ x).setCell ⟨F, 1, none⟩ y).setCell ⟨F, 2, none⟩ z).cell? ⟨b, o, none⟩ = some v := by
  rw [World.cell?_setCell_other _ _ _ _ (fun e => by injection e with e1; exact hb (by omega)), World.cell?_setCell_other _ _ _ _ (fun e => by injection e with e1; exact hb (by omega)), World.cell?_setCell_other _ _ _ _ (fun e => by injection e with e1; exact hb (by omega)), h]
/-- What stands behind the first statement: a function without code, its result's place, the choices. -/
def FnS (g : Nat) (P : Int) (w : World) (v : Value) (wx : World) : Prop :=
  ∃ (F : Nat) (A1 : Option Addr) (c1 : Nat) (l : List (Int × Int)), v = .pointer (some ⟨F, 0, none⟩) ∧ w.heap.size < F ∧ Row wx F 30 [.int .i64 P, .slice A1 l.length c1, .slice none 0 0] ∧ Row wx w.heap.size 30 [.int .i64 0, .slice none 0 0, .slice none 0 0] ∧
    ((A1 = none → c1 = 0) ∧ l.length ≤ c1) ∧ (Far w.heap.size A1 ∧ ∀ a, A1 = some a → a.block ≠ F ∧ a.block ≠ w.heap.size) ∧ Sees wx wx.heap.size A1 (pcells l) ∧ l.length ≤ 6 ∧ (∀ u ∈ l, slotB u.1 u.2 = true) ∧ Codes wx g ∧ w.grownBy wx (some g)
theorem fns_late {g : Nat} {P : Int} {w w0 w1 : World} {A1 : Option Addr} {c1 : Nat} {l : List (Int × Int)} (hw0 : w.heap.size < w0.heap.size) (hg : g < w.heap.size) (hR0 : Row w0 w.heap.size 30 [.int .i64 0, .slice none 0 0, .slice none 0 0]) (hG0 : w.grownBy w0 (some g)) (hown : w1.ownsRow w0.heap.size 51 2 (.slice A1 l.length c1) l.length (pcells l)) (hl6 : l.length ≤ 6) (hok : ∀ u ∈ l, slotB u.1 u.2 = true) (hC1 : Codes w1 g) (hG1 : w0.grownBy w1 (some g)) :
    FnS g P w (.pointer (some ⟨w1.heap.size, 0, none⟩)) (w1.alloc (.cells #[.int .i64 P, .slice A1 l.length c1, .slice none 0 0] 30)) := by
  obtain ⟨A, c, he, hA, hn, hfar, hsee⟩ := own_seen hown
  injection he with e1 _ e3
  subst e1 e3
  have hs1 : w0.heap.size ≤ w1.heap.size := hG1.size
  refine ⟨w1.heap.size, A1, c1, l, rfl, by omega, Row.new w1 _ _, (hR0.grown hG1 (fun e => by injection e with e; omega)).alloc _, ⟨hA, hn⟩, ⟨hfar.more (by omega), fun a ha => ⟨?_, ?_⟩⟩, (hsee.alloc (Nat.le_refl _) _).more (by simp), hl6, hok, hC1.alloc _, (hG0.trans hG1).trans (World.grownBy_alloc _ _ _)⟩
  · have := hown.lt a.block (by subst ha; rfl); omega
  · have := hown.lt a.block (by subst ha; rfl); omega
theorem fns_soon {g : Nat} {P : Int} {w w0 w1 : World} {A1 : Option Addr} {c1 : Nat} {l : List (Int × Int)} (hw0 : w.heap.size + 1 < w0.heap.size) (hg : g < w.heap.size) (hR0 : Row w0 w.heap.size 30 [.int .i64 0, .slice none 0 0, .slice none 0 0]) (hRF : Row w0 (w.heap.size + 1) 30 [.int .i64 0, .slice none 0 0, .slice none 0 0]) (hG0 : w.grownBy w0 (some g)) (hown : w1.ownsRow w0.heap.size 51 2 (.slice A1 l.length c1) l.length (pcells l)) (hl6 : l.length ≤ 6) (hok : ∀ u ∈ l, slotB u.1 u.2 = true) (hC1 : Codes w1 g) (hG1 : w0.grownBy w1 (some g)) :
    FnS g P w (.pointer (some ⟨w.heap.size + 1, 0, none⟩)) (((w1.setCell ⟨w.heap.size + 1, 0, none⟩ (.int .i64 P)).setCell ⟨w.heap.size + 1, 1, none⟩ (.slice A1 l.length c1)).setCell ⟨w.heap.size + 1, 2, none⟩ (.slice none 0 0)) := by
  obtain ⟨A, c, he, hA, hn, hfar, hsee⟩ := own_seen hown
  injection he with e1 _ e3
  subst e1 e3
  have hs1 : w0.heap.size ≤ w1.heap.size := hG1.size
  have r0 := hR0.grown hG1 (fun e => by injection e with e; omega)
  have rF := hRF.grown hG1 (fun e => by injection e with e; omega)
  have other : ∀ p : Addr, w0.heap.size ≤ p.block ∨ p.block = g ∨ p.block < w.heap.size → (((w1.setCell ⟨w.heap.size + 1, 0, none⟩ (.int .i64 P)).setCell ⟨w.heap.size + 1, 1, none⟩ (.slice A1 l.length c1)).setCell ⟨w.heap.size + 1, 2, none⟩ (.slice none 0 0)).cell? p = w1.cell? p := fun p hp => by
    rw [World.cell?_setCell_other _ _ _ _ (fun e => by subst e; simp at hp; omega), World.cell?_setCell_other _ _ _ _ (fun e => by subst e; simp at hp; omega), World.cell?_setCell_other _ _ _ _ (fun e => by subst e; simp at hp; omega)]
  refine ⟨w.heap.size + 1, A1, c1, l, rfl, by omega, ((rF.set_ 0 _).set_ 1 _).set_ 2 _, ((r0.far (p := ⟨_, 0, none⟩) (by simp) _).far (p := ⟨_, 1, none⟩) (by simp) _).far (p := ⟨_, 2, none⟩) (by simp) _, ⟨hA, hn⟩, ⟨hfar.more (by omega), fun a ha => ⟨?_, ?_⟩⟩, ?_, hl6, hok, ?_, ?_⟩
  · have := hown.lt a.block (by subst ha; rfl); omega
  · have := hown.lt a.block (by subst ha; rfl); omega
  · have hz : (((w1.setCell ⟨w.heap.size + 1, 0, none⟩ (.int .i64 P)).setCell ⟨w.heap.size + 1, 1, none⟩ (.slice A1 l.length c1)).setCell ⟨w.heap.size + 1, 2, none⟩ (.slice none 0 0)).heap.size = w1.heap.size := by simp [World.setCell]
    rw [hz]
    exact hsee.keepF hfar fun p h1 _ => other p (.inl h1)
  · obtain ⟨A, n, c, zs, i, r, s, hh⟩ := hC1
    refine ⟨A, n, c, zs, i, ((r.far (p := ⟨_, 0, none⟩) (by simp; omega) _).far (p := ⟨_, 1, none⟩) (by simp; omega) _).far (p := ⟨_, 2, none⟩) (by simp; omega) _, s.keep fun p hp => other p (.inr (.inr (by omega))), hh⟩
  · have hG := hG0.trans hG1
    refine ⟨hG.os, hG.tape, hG.output, by simpa [World.setCell] using hG.size, fun k hk hne => ?_⟩
    rw [Below.heap_setCell _ ⟨_, 2, none⟩ _ k (by simp; omega), Below.heap_setCell _ ⟨_, 1, none⟩ _ k (by simp; omega), Below.heap_setCell _ ⟨_, 0, none⟩ _ k (by simp; omega)]
    exact hG.block k hk hne
theorem gkeep {W w1 : World} {g b o : Nat} {v : Value} (h : W.grownBy w1 (some g)) (hb : b < W.heap.size) (hn : b ≠ g) (hc : W.cell? ⟨b, o, none⟩ = some v) : w1.cell? ⟨b, o, none⟩ = some v := ((gcell h).1 b o hb hn).trans hc

/-- A drawn function: right, small, it calls later functions alone. -/
structure FnGood (N i most : Nat) (f : Fn) : Prop where
  err : fnE N f = 0
  few : f.slots.length ≤ 6
  short : f.code.length ≤ 7 + 5 * most
  some : 1 ≤ f.code.length
  later : ∀ x ∈ f.code, x.op = 22 → (i : Int) < x.a
  imm : ∀ x ∈ f.code, immI x
def FnPost (N i most : Nat) (ps : List Int) (g : Nat) (w : World) (e : Ending) (w' : World) : Prop :=
  ∃ (P : Int) (A1 : Option Addr) (n1 c1 : Nat) (A2 : Option Addr) (n2 c2 : Nat) (f : Fn), e = .returned (fv P A1 n1 c1 A2 n2 c2) ∧ HdAt w' w.heap.size w'.heap.size ⟨P, A1, n1, c1, A2, n2, c2⟩ f ∧ FnGood N i most f ∧ ps[i]? = some P ∧ Codes w' g ∧ w.grownBy w' (some g)

/-- What the loops that collect instructions keep. -/
def CodeI (N i : Nat) (P : Int) (l : List (Int × Int)) (g n : Nat) (wc : World) (v : Value) (wr : World) : Prop :=
  ∃ xs : List Ins, xs.length ≤ n ∧ (∀ x ∈ xs, preI N i P l x) ∧ wr.ownsRow wc.heap.size 54 5 v xs.length (icells xs) ∧ Codes wr g ∧ wc.grownBy wr (some g)
theorem CodeI.more {N i g n n' : Nat} {P : Int} {l : List (Int × Int)} {wc wr : World} {v : Value} (h : CodeI N i P l g n wc v wr) (hn : n ≤ n') : CodeI N i P l g n' wc v wr := by
  obtain ⟨xs, h1, h⟩ := h
  exact ⟨xs, by omega, h⟩
theorem CodeI.skip {N i g n : Nat} {P : Int} {l : List (Int × Int)} {wc wr w2 : World} {v : Value} (h : CodeI N i P l g n wc v wr) (hg : g < wc.heap.size) (hC : Codes w2 g) (hG : wr.grownBy w2 (some g)) : CodeI N i P l g n wc v w2 := by
  obtain ⟨xs, h1, h2, h3, h4, h5⟩ := h
  exact ⟨xs, h1, h2, own_stay h3 hg hG, hC, h5.trans hG⟩
theorem CodeI.add {N i g n : Nat} {P : Int} {l : List (Int × Int)} {wc w2 w3 : World} {v v' : Value} {xs : List Ins} {x : Ins} {t : TypeId} (hn : xs.length + 1 ≤ n) (hx : ∀ x ∈ xs, preI N i P l x) (hp : preI N i P l x) (hg : g < wc.heap.size)
    (ho : w2.ownsRow wc.heap.size 54 5 v xs.length (icells xs)) (hC : Codes w2 g) (hG : wc.grownBy w2 (some g)) (ho3 : w3.ownsRow wc.heap.size 54 5 v' (xs.length + 1) (icells xs ++ [.int .i64 x.op, .int .i64 x.a, .int .i64 x.b, .int .i64 x.c, .int .u64 x.imm])) (hg3 : (w2.alloc (.cells #[.int .i64 x.op, .int .i64 x.a, .int .i64 x.b, .int .i64 x.c, .int .u64 x.imm] t)).grownBy w3 v.ownBlock) :
    CodeI N i P l g n wc v' w3 := by
  refine ⟨xs ++ [x], by simp; omega, (fun y hy => ?_), by rw [icells_append, icells_one]; simpa using ho3, (hC.alloc _).kept hg3 (fun j hj => ?_), (hG.trans (World.grownBy_alloc _ _ _)).andThen hg3 (fun j hj => .inl ?_)⟩
  · rcases List.mem_append.1 hy with h | h
    · exact hx y h
    · simp at h; subst h; exact hp
  · have := (ho.lt j hj).1; omega
  · exact (ho.lt j hj).1
theorem CodeI.app {N i g n : Nat} {P : Int} {l : List (Int × Int)} {wc w2 w3 : World} {v v' : Value} {xs ys : List Ins} (hn : xs.length + ys.length ≤ n) (hx : ∀ x ∈ xs, preI N i P l x) (hy : ∀ y ∈ ys, preI N i P l y) (hg : g < wc.heap.size)
    (ho : w2.ownsRow wc.heap.size 54 5 v xs.length (icells xs)) (hC : Codes w2 g) (hG : wc.grownBy w2 (some g)) (ho3 : w3.ownsRow wc.heap.size 54 5 v' (xs.length + ys.length) (icells xs ++ icells ys)) (hg3 : w2.grownBy w3 v.ownBlock) :
    CodeI N i P l g n wc v' w3 := by
  refine ⟨xs ++ ys, by simp; omega, (fun y h => ?_), by rw [icells_append]; simpa using ho3, hC.kept hg3 (fun j hj => ?_), hG.andThen hg3 (fun j hj => .inl ?_)⟩
  · rcases List.mem_append.1 h with h | h
    · exact hx y h
    · exact hy y h
  · have := (ho.lt j hj).1; omega
  · exact (ho.lt j hj).1

theorem grown_cell (w : World) (E j : Nat) (u : Value) : w.grownBy (w.setCell ⟨E, j, none⟩ u) (some E) := ⟨rfl, rfl, rfl, by simp [World.setCell], fun k _ hk => heap_setCell_other w ⟨E, j, none⟩ k u (fun e => hk (by simp [e]))⟩
theorem CodeI.cell {N i g n : Nat} {P : Int} {l : List (Int × Int)} {wc w2 : World} {v : Value} (h : CodeI N i P l g n wc v w2) {E : Nat} (hob : ∀ k, v.ownBlock = some k → k < E) (hE : wc.heap.size ≤ E) (hg : g < E) (j : Nat) (u : Value) : CodeI N i P l g n wc v (w2.setCell ⟨E, j, none⟩ u) := by
  obtain ⟨xs, h1, h2, h3, h4, h5⟩ := h
  refine ⟨xs, h1, h2, h3.kept (grown_cell w2 E j u) ?_, h4.kept (grown_cell w2 E j u) (fun k hk => by injection hk with hk; omega), h5.andThen (grown_cell w2 E j u) (fun k hk => .inl (by injection hk with hk; omega))⟩
  cases e : v.ownBlock with
  | none => exact .inl rfl
  | some k => exact .inr fun h' => by have := hob k e; injection h' with h'; omega
/-- The end of a function; an instruction that is right among n. -/
def endI (x : Ins) : Prop := x = ⟨23, 0, 0, 0, 0⟩ ∨ ∃ m, isW m ∧ x = ⟨24, 0, 0, 0, m⟩
def doneI (N i : Nat) (P : Int) (l : List (Int × Int)) (n : Nat) (x : Ins) : Prop := insE N ⟨P, l, List.replicate n ⟨23, 0, 0, 0, 0⟩⟩ x = 0 ∧ (x.op = 22 → (i : Int) < x.a) ∧ immI x
theorem done_good {N i n : Nat} {P : Int} {l : List (Int × Int)} {x : Ins} (h : goodI N i P l x) : doneI N i P l n x := ⟨h.2.1 _, h.2.2, h.1.2.2.2.2⟩
theorem imm_zero (o a b c : Int) : immI ⟨o, a, b, c, 0⟩ := (show (0 : Int) ≤ 0 ∧ (0 : Int) ≤ 18446744073709551615 by decide)
theorem done_end {N i n : Nat} {P : Int} {l : List (Int × Int)} {x : Ins} (h : endI x) : doneI N i P l n x := by
  rcases h with rfl | ⟨m, hm, rfl⟩
  · exact ⟨ret_ok, fun h => absurd h (by decide), imm_zero _ _ _ _⟩
  · exact ⟨trap_ok, fun h => absurd (show (24 : Int) = 22 from h) (by decide), hm⟩
/-- What the loop that sets the targets keeps. -/
def FixI (N i : Nat) (P : Int) (l : List (Int × Int)) (g n : Nat) (wc : World) (G c k : Nat) (wr : World) : Prop :=
  ∃ ys : List Ins, ys.length = n ∧ (∀ j x, ys[j]? = some x → j < k → doneI N i P l n x) ∧ (∀ j x, ys[j]? = some x → k ≤ j → preI N i P l x ∨ endI x) ∧ (∀ x, ys[n - 1]? = some x → endI x) ∧
    wr.ownsRow wc.heap.size 54 5 (.slice (some ⟨G, 0, none⟩) n c) n (icells ys) ∧ Codes wr g ∧ wc.grownBy wr (some g)
theorem FixI.step {N i g n G c k : Nat} {P : Int} {l : List (Int × Int)} {wc w2 : World} {ys : List Ins} {x y : Ins} (hl : ys.length = n) (hd : ∀ j x, ys[j]? = some x → j < k → doneI N i P l n x) (hp : ∀ j x, ys[j]? = some x → k ≤ j → preI N i P l x ∨ endI x) (he : ∀ x, ys[n - 1]? = some x → endI x)
    (hx : ys[k]? = some x) (hy : doneI N i P l n y) (hye : endI x → y = x) (ho : w2.ownsRow wc.heap.size 54 5 (.slice (some ⟨G, 0, none⟩) n c) n (icells (ys.set k y))) (hC : Codes w2 g) (hG : wc.grownBy w2 (some g)) : FixI N i P l g n wc G c (k + 1) w2 := by
  have hk : k < ys.length := (List.getElem?_eq_some_iff.1 hx).1
  refine ⟨ys.set k y, by rw [List.length_set]; exact hl, (fun j z hz hj => ?_), (fun j z hz hj => ?_), (fun z hz => ?_), ho, hC, hG⟩
  · by_cases e : j = k
    · subst e
      rw [List.getElem?_set_self hk] at hz
      injection hz with hz
      exact hz ▸ hy
    · rw [List.getElem?_set_ne (by omega)] at hz
      exact hd j z hz (by omega)
  · rw [List.getElem?_set_ne (by omega)] at hz
    exact hp j z hz (by omega)
  · by_cases e : n - 1 = k
    · rw [e, List.getElem?_set_self hk] at hz
      injection hz with hz
      have h1 := he x (by rw [e]; exact hx)
      exact hz ▸ (hye h1).symm ▸ h1
    · rw [List.getElem?_set_ne (by omega)] at hz
      exact he z hz
theorem row_five {w : World} {base G n c : Nat} {ys : List Ins} {k : Nat} {x : Ins} (h : w.ownsRow base 54 5 (.slice (some ⟨G, 0, none⟩) n c) n (icells ys)) (hx : ys[k]? = some x) :
    (w.cell? ⟨G, k * 5, none⟩ = some (.int .i64 x.op) ∧ w.cell? ⟨G, k * 5 + 1, none⟩ = some (.int .i64 x.a) ∧ w.cell? ⟨G, k * 5 + 2, none⟩ = some (.int .i64 x.b)) ∧ w.frozen? ⟨G, k * 5 + 1, none⟩ = false ∧ w.frozen? ⟨G, k * 5 + 2, none⟩ = false := by
  have g := fun j hj => flat_at icell_len ys k _ hx j hj
  have c' := fun j u (hu : (icells ys)[j]? = some u) => (by
    have := h.cells (g := G) rfl j u hu
    rwa [WideShapes.add_plain, Nat.zero_add] at this : w.cell? ⟨G, j, none⟩ = some u)
  exact ⟨⟨c' _ _ (g 0 (by omega)), c' _ _ (g 1 (by omega)), c' _ _ (g 2 (by omega))⟩, h.frozenAt _, h.frozenAt _⟩
theorem FixI.start {N i g n : Nat} {P : Int} {l : List (Int × Int)} {wc w2 w3 : World} {v v' : Value} {xs : List Ins} {x : Ins} {t : TypeId} (_ : xs.length ≤ n) (hx : ∀ x ∈ xs, preI N i P l x) (hp : endI x) (hg : g < wc.heap.size)
    (ho : w2.ownsRow wc.heap.size 54 5 v xs.length (icells xs)) (hC : Codes w2 g) (hG : wc.grownBy w2 (some g)) (ho3 : w3.ownsRow wc.heap.size 54 5 v' (xs.length + 1) (icells xs ++ [.int .i64 x.op, .int .i64 x.a, .int .i64 x.b, .int .i64 x.c, .int .u64 x.imm])) (hg3 : (w2.alloc (.cells #[.int .i64 x.op, .int .i64 x.a, .int .i64 x.b, .int .i64 x.c, .int .u64 x.imm] t)).grownBy w3 v.ownBlock) :
    ∃ G c, v' = .slice (some ⟨G, 0, none⟩) (xs.length + 1) c ∧ FixI N i P l g (xs.length + 1) wc G c 0 w3 := by
  obtain ⟨G, c, rfl, hG1, hG2, hc, hcm⟩ := own_block ho3 (by omega)
  refine ⟨G, c, rfl, xs ++ [x], by simp, (fun j y _ h => by omega), (fun j y hy _ => ?_), (fun y hy => ?_), by rw [icells_append, icells_one]; exact ho3, (hC.alloc _).kept hg3 (fun j hj => ?_), (hG.trans (World.grownBy_alloc _ _ _)).andThen hg3 (fun j hj => .inl ?_)⟩
  · rcases List.mem_append.1 (List.mem_of_getElem? hy) with h | h
    · exact .inl (hx y h)
    · simp at h; subst h; exact .inr hp
  · rw [Nat.add_sub_cancel, List.getElem?_append_right (Nat.le_refl _), Nat.sub_self] at hy
    simp at hy; subst hy; exact hp
  · have := (ho.lt j hj).1; omega
  · exact (ho.lt j hj).1
theorem set_a {ys : List Ins} {k : Nat} {x : Ins} (hx : ys[k]? = some x) (t : Int) : (icells ys).set (k * 5 + 1) (.int .i64 t) = icells (ys.set k ⟨x.op, t, x.b, x.c, x.imm⟩) := flat_set icell_len ys k x _ hx 1 (by omega) _ rfl
theorem set_b {ys : List Ins} {k : Nat} {x : Ins} (hx : ys[k]? = some x) (t : Int) : (icells ys).set (k * 5 + 2) (.int .i64 t) = icells (ys.set k ⟨x.op, x.a, t, x.c, x.imm⟩) := flat_set icell_len ys k x _ hx 2 (by omega) _ rfl
/-- A store into an owned row: the choices, and what the row's call has left. -/
theorem codes_row {w : World} {base G g n c : Nat} {t : TypeId} {size : Nat} {xs : List Value} (h : w.ownsRow base t size (.slice (some ⟨G, 0, none⟩) n c) n xs) (hg : g < base) (hC : Codes w g) (j : Nat) (u : Value) : Codes (w.setCell ⟨G, j, none⟩ u) g :=
  hC.kept (h.stored j u).2 (fun k hk => by injection hk with hk; have := (h.lt G rfl).1; omega)
theorem grown_row {w0 w : World} {base G g n c : Nat} {t : TypeId} {size : Nat} {xs : List Value} (h : w.ownsRow base t size (.slice (some ⟨G, 0, none⟩) n c) n xs) (hb : w0.heap.size ≤ base) (hG : w0.grownBy w (some g)) (j : Nat) (u : Value) : w0.grownBy (w.setCell ⟨G, j, none⟩ u) (some g) :=
  hG.andThen (h.stored j u).2 (fun k hk => .inl (by injection hk with hk; have := (h.lt G rfl).1; omega))
/-- The element that stands at k is done as it is; is a jump; is a branch. -/
theorem FixI.pass {N i g n G c k : Nat} {P : Int} {l : List (Int × Int)} {wc w2 : World} {ys : List Ins} {x : Ins} (hl : ys.length = n) (hd : ∀ j x, ys[j]? = some x → j < k → doneI N i P l n x) (hp : ∀ j x, ys[j]? = some x → k ≤ j → preI N i P l x ∨ endI x) (he : ∀ x, ys[n - 1]? = some x → endI x)
    (hx : ys[k]? = some x) (hy : doneI N i P l n x) (ho : w2.ownsRow wc.heap.size 54 5 (.slice (some ⟨G, 0, none⟩) n c) n (icells ys)) (hC : Codes w2 g) (hG : wc.grownBy w2 (some g)) : FixI N i P l g n wc G c (k + 1) w2 := by
  have hk : k < ys.length := (List.getElem?_eq_some_iff.1 hx).1
  have e : ys.set k x = ys := by
    have : ys[k] = x := by rw [List.getElem?_eq_getElem hk] at hx; injection hx
    rw [← this, List.set_getElem_self]
  exact FixI.step hl hd hp he hx hy (fun _ => rfl) (e.symm ▸ ho) hC hG
theorem FixI.jump {N i g n G c k : Nat} {P T : Int} {l : List (Int × Int)} {wc w2 : World} {ys : List Ins} (hl : ys.length = n) (hd : ∀ j x, ys[j]? = some x → j < k → doneI N i P l n x) (hp : ∀ j x, ys[j]? = some x → k ≤ j → preI N i P l x ∨ endI x) (he : ∀ x, ys[n - 1]? = some x → endI x)
    (hx : ys[k]? = some ⟨20, -1, 0, 0, 0⟩) (ho : w2.ownsRow wc.heap.size 54 5 (.slice (some ⟨G, 0, none⟩) n c) n (icells ys)) (hg : g < wc.heap.size) (hC : Codes w2 g) (hG : wc.grownBy w2 (some g)) (T0 : 0 ≤ T) (T1 : T < n) : FixI N i P l g n wc G c (k + 1) (w2.setCell ⟨G, k * 5 + 1, none⟩ (.int .i64 T)) :=
  FixI.step (y := ⟨20, T, 0, 0, 0⟩) hl hd hp he hx ⟨jump_ok T0 (by simpa using T1), fun h => absurd (show (20 : Int) = 22 from h) (by decide), imm_zero _ _ _ _⟩ (fun h => by rcases h with h | ⟨m, _, h⟩ <;> (injection h with h; exact absurd h (by decide)))
    (by rw [← set_a hx T]; exact (ho.stored _ _).1) (codes_row ho hg hC _ _) (grown_row ho (Nat.le_refl _) hG _ _)
theorem FixI.branch {N i g n G c k : Nat} {P T a : Int} {l : List (Int × Int)} {wc w2 : World} {ys : List Ins} (hl : ys.length = n) (hd : ∀ j x, ys[j]? = some x → j < k → doneI N i P l n x) (hp : ∀ j x, ys[j]? = some x → k ≤ j → preI N i P l x ∨ endI x) (he : ∀ x, ys[n - 1]? = some x → endI x)
    (hx : ys[k]? = some ⟨21, a, -1, 0, 0⟩) (ho : w2.ownsRow wc.heap.size 54 5 (.slice (some ⟨G, 0, none⟩) n c) n (icells ys)) (hg : g < wc.heap.size) (hC : Codes w2 g) (hG : wc.grownBy w2 (some g)) (a0 : 0 ≤ a) (a1 : a < 8) (T0 : 0 ≤ T) (T1 : T < n) : FixI N i P l g n wc G c (k + 1) (w2.setCell ⟨G, k * 5 + 2, none⟩ (.int .i64 T)) :=
  FixI.step (y := ⟨21, a, T, 0, 0⟩) hl hd hp he hx ⟨branch_ok a0 a1 T0 (by simpa using T1), fun h => absurd (show (21 : Int) = 22 from h) (by decide), imm_zero _ _ _ _⟩ (fun h => by rcases h with h | ⟨m, _, h⟩ <;> (injection h with h; exact absurd h (by decide)))
    (by rw [← set_b hx T]; exact (ho.stored _ _).1) (codes_row ho hg hC _ _) (grown_row ho (Nat.le_refl _) hG _ _)
/-- All are done: the function is right. -/
theorem FixI.good {N i g n G c most : Nat} {P : Int} {l : List (Int × Int)} {wc wr : World} (h : FixI N i P l g n wc G c n wr) (hn0 : 1 ≤ n) (hn1 : n ≤ 7 + 5 * most) (hm : most ≤ 100) (hP : 0 ≤ P ∧ P ≤ 8) (hl6 : l.length ≤ 6) (hok : ∀ u ∈ l, slotB u.1 u.2 = true) :
    ∃ ys : List Ins, ys.length = n ∧ FnGood N i most ⟨P, l, ys⟩ ∧ wr.ownsRow wc.heap.size 54 5 (.slice (some ⟨G, 0, none⟩) n c) n (icells ys) ∧ Codes wr g ∧ wc.grownBy wr (some g) := by
  obtain ⟨ys, h1, h2, h3, h4, h5, h6, h7⟩ := h
  have hall : ∀ x ∈ ys, doneI N i P l n x := fun x hx => by
    obtain ⟨j, hj, rfl⟩ := List.mem_iff_getElem.1 hx
    exact h2 j _ (List.getElem?_eq_getElem hj) (by omega)
  refine ⟨ys, h1, ⟨?_, hl6, by simp only; omega, by simp only; omega, fun x hx => (hall x hx).2.1, fun x hx => (hall x hx).2.2⟩, h5, h6, h7⟩
  rw [fnE_zero]
  refine ⟨by simp only; omega, ?_, hP, fun x hx => ?_, ?_⟩
  · rw [slotsE_few (by simp only; omega)]
    have : l.any (fun u => !slotB u.1 u.2) = false := by
      rw [List.any_eq_false]
      intro u hu
      simp [hok u hu]
    simp only [this]; rfl
  · rw [← (hall x hx).1]
    exact insE_congr rfl rfl (by simp [h1])
  · have hlast : ys[n - 1]? = some (ys[n - 1]'(by omega)) := List.getElem?_eq_getElem (by omega)
    have he := h4 _ hlast
    unfold closedB
    rw [List.getLast?_eq_getElem?, h1, hlast]
    rcases he with e | ⟨m, _, e⟩ <;> rw [e] <;> rfl

/-- The end of function: what has been built, behind the last stores. -/
theorem fn_end {g np i most F G cG n c1 : Nat} {P : Int} {A1 : Option Addr} {l : List (Int × Int)} {ps : List Int} {ys : List Ins} {w wb wr wf : World}
    (hwf : (((wr.setCell ⟨F, 2, none⟩ (.slice (some ⟨G, 0, none⟩) n cG)).setCell ⟨w.heap.size, 0, none⟩ (.int .i64 P)).setCell ⟨w.heap.size, 1, none⟩ (.slice A1 l.length c1)).setCell ⟨w.heap.size, 2, none⟩ (.slice (some ⟨G, 0, none⟩) n cG) = wf)
    (hF : w.heap.size < F) (hFl : F < wb.heap.size) (hgl : g < w.heap.size) (_ : g < wb.heap.size) (hwc : w.heap.size ≤ wb.heap.size) {hil : i < ps.length} (hP : ps[i] = P) (_ : i < ps.length) (hyl : ys.length = n) (hn : n ≤ 8796093022208) (hgood : FnGood np i most ⟨P, l, ys⟩)
    (hyo : wr.ownsRow wb.heap.size 54 5 (.slice (some ⟨G, 0, none⟩) n cG) n (icells ys)) (hC : Codes wr g) (hG : wb.grownBy wr (some g)) (hG0 : w.grownBy wb (some g)) (hcap : (A1 = none → c1 = 0) ∧ l.length ≤ c1) (hfar : Far w.heap.size A1 ∧ ∀ a, A1 = some a → a.block ≠ F ∧ a.block ≠ w.heap.size) (hsee : Sees wb wb.heap.size A1 (pcells l))
    (hR : Row wb w.heap.size 30 [.int .i64 0, .slice none 0 0, .slice none 0 0]) :
    FnPost np i most ps g w (.returned (fv P A1 l.length c1 (some ⟨G, 0, none⟩) n cG)) wf ∧ wf.cell? ⟨w.heap.size, 0, none⟩ = some (.int .i64 P) ∧ wf.cell? ⟨w.heap.size, 1, none⟩ = some (.slice A1 l.length c1) ∧ wf.cell? ⟨w.heap.size, 2, none⟩ = some (.slice (some ⟨G, 0, none⟩) n cG) := by
  have hGl := hyo.lt G rfl
  have hsz : wf.heap.size = wr.heap.size := by rw [← hwf]; simp [World.setCell]
  have other : ∀ p : Addr, p.block ≠ F → p.block ≠ w.heap.size → wf.cell? p = wr.cell? p := fun p h1 h2 => by
    rw [← hwf, World.cell?_setCell_other _ _ _ _ (fun e => by subst e; exact h2 rfl), World.cell?_setCell_other _ _ _ _ (fun e => by subst e; exact h2 rfl), World.cell?_setCell_other _ _ _ _ (fun e => by subst e; exact h2 rfl), World.cell?_setCell_other _ _ _ _ (fun e => by subst e; exact h1 rfl)]
  have hrows : Row wf w.heap.size 30 [.int .i64 P, .slice A1 l.length c1, .slice (some ⟨G, 0, none⟩) n cG] := by
    rw [← hwf]
    exact ((((hR.grown hG (fun e => by injection e with e; omega)).far (p := ⟨F, 2, none⟩) (by simp; omega) _).set_ 0 _).set_ 1 _).set_ 2 _
  refine ⟨⟨P, A1, l.length, c1, some ⟨G, 0, none⟩, n, cG, ⟨P, l, ys⟩, rfl, ⟨rfl, rfl, hyl, ⟨hcap.1, hcap.2, by have := hgood.few; simp only at this ⊢; omega⟩, ⟨(fun e => by cases e), ?_, hn⟩, hfar.1, (fun a ha => by injection ha with ha; subst ha; simp only; omega), ?_, ?_⟩, hgood, ?_, ?_, ?_⟩, hrows.cell rfl, hrows.cell rfl, hrows.cell rfl⟩
  · obtain ⟨A, c, he, _, hnc, _⟩ := own_seen hyo
    injection he with _ _ e3
    simp only; omega
  · intro k u hu
    obtain ⟨b, off, e, hb, hc⟩ := hsee k u hu
    obtain ⟨h1, h2⟩ := hfar.2 _ e
    have hlo : w.heap.size ≤ b := hfar.1 _ e
    exact ⟨b, off, e, by rw [hsz]; have := hG.size; omega, (other ⟨b, off + k, .none⟩ h1 h2).trans ((World.cell?_of_block (hG.block b hb (fun e => by injection e with e; omega))).trans hc)⟩
  · intro k u hu
    obtain ⟨b, off, e, hb, hc⟩ := Sees.ownN hyo k u hu
    injection e with e
    injection e with e1 e2
    subst e1 e2
    exact ⟨G, 0, rfl, by rw [hsz]; exact hb, (other ⟨G, 0 + k, .none⟩ (by simp only; omega) (by simp only; omega)).trans hc⟩
  · rw [List.getElem?_eq_getElem hil, hP]
  · obtain ⟨A, n', c, zs, i', r, s, hh⟩ := hC
    refine ⟨A, n', c, zs, i', ?_, s.keep fun p hp => other p (by omega) (by omega), hh⟩
    rw [← hwf]
    exact (((r.far (p := ⟨F, 2, none⟩) (by simp; omega) _).far (p := ⟨w.heap.size, 0, none⟩) (by simp; omega) _).far (p := ⟨w.heap.size, 1, none⟩) (by simp; omega) _).far (p := ⟨w.heap.size, 2, none⟩) (by simp; omega) _
  · have hGG := hG0.trans hG
    refine ⟨by rw [← hwf]; exact hGG.os, by rw [← hwf]; exact hGG.tape, by rw [← hwf]; exact hGG.output, by rw [hsz]; exact hGG.size, fun k hk hne => ?_⟩
    rw [← hwf, Below.heap_setCell _ ⟨w.heap.size, 2, none⟩ _ k (by simp; omega), Below.heap_setCell _ ⟨w.heap.size, 1, none⟩ _ k (by simp; omega), Below.heap_setCell _ ⟨w.heap.size, 0, none⟩ _ k (by simp; omega), Below.heap_setCell _ ⟨F, 2, none⟩ _ k (by simp; omega)]
    exact hGG.block k hk hne

set_option maxRecDepth 100000 in
set_option maxHeartbeats 20000000 in
theorem fn_any (g : Nat) (i : Nat) (Ap : Option Addr) (np cp : Nat) (ps : List Int) (most B : Nat) (w : World) (h : Hid (Codes w g)) (hm : most ≤ 100)
    (hpl : Hid (ps.length = np)) (hnp : np ≤ 80) (hps : Hid (Sees w B Ap (cellsJ ps))) (hfp : Hid (Far (g + 1) Ap)) (hpb : Hid (∀ p ∈ ps, 0 ≤ p ∧ p ≤ 3)) (hin : i < np) (hB : B ≤ w.heap.size) :
    Calls Tryd.prog 42 #[.pointer (some ⟨g, 0, none⟩), .int .i64 (i : Int), .slice Ap np cp, .int .i64 (most : Int)] w (FnPost np i most ps g w) := by
  obtain ⟨i0, hi, hz0, hz1, hz2⟩ := info_parts Tryd.info54
  have hgl := h.out.lt
  have c := next_any g
  have hil : i < ps.length := by have := hpl.out; omega
  obtain ⟨bp, op, rfl, hbp, u0⟩ := inum_at hps.out hil
  obtain ⟨P, hP⟩ : ∃ p, ps[i]'hil = p := ⟨_, rfl⟩
  rw [hP] at u0
  have hiz0 : (0 : Int) ≤ (i : Int) := by omega
  have hiz1 : (i : Int) < (np : Int) := by omega
  have hbw : bp < w.heap.size := by omega
  have hbg : bp ≠ g := by have := hfp.out _ rfl; simp only at this; omega
  have HP := hide hP
  clear hP
  go_enter Tryd.func42, Tryd.ntmps42
  go_wp2_with fail
  have RF : Hid (Row ((w.alloc (.cells #[.int .i64 0, .slice none 0 0, .slice none 0 0] 30)).alloc (.cells #[.int .i64 0, .slice none 0 0, .slice none 0 0] 30)).drew (w.heap.size + 1) 30 [.int .i64 0, .slice none 0 0, .slice none 0 0]) := hide (heap_at _ _ (by simp))
  have L1 : Hid (bp < ((w.alloc (.cells #[.int .i64 0, .slice none 0 0, .slice none 0 0] 30)).alloc (.cells #[.int .i64 0, .slice none 0 0, .slice none 0 0] 30)).drew.heap.size) := hide (by show bp < ((w.alloc _).alloc _).heap.size; simp; omega)
  have L2 : Hid (bp < (w.alloc (.cells #[.int .i64 0, .slice none 0 0, .slice none 0 0] 30)).drew.heap.size) := hide (by show bp < (w.alloc _).heap.size; simp; omega)
  have hbF : bp ≠ w.heap.size + 1 := by omega
  have G1 : Hid (w.grownBy ((w.alloc (.cells #[.int .i64 0, .slice none 0 0, .slice none 0 0] 30)).alloc (.cells #[.int .i64 0, .slice none 0 0, .slice none 0 0] 30)).drew (some g)) := hide (grown_draws ((World.grownBy_alloc _ _ _).trans (World.grownBy_alloc _ _ _)) 1)
  have G2 : Hid (w.grownBy (w.alloc (.cells #[.int .i64 0, .slice none 0 0, .slice none 0 0] 30)).drew (some g)) := hide (grown_draws (World.grownBy_alloc _ _ _) 1)
  have Q1 : Hid (Row ((w.alloc (.cells #[.int .i64 0, .slice none 0 0, .slice none 0 0] 30)).alloc (.cells #[.int .i64 0, .slice none 0 0, .slice none 0 0] 30)).drew w.heap.size 30 [.int .i64 0, .slice none 0 0, .slice none 0 0]) := hide ((Row.new w _ _).alloc _)
  have Q2 : Hid (Row (w.alloc (.cells #[.int .i64 0, .slice none 0 0, .slice none 0 0] 30)).drew w.heap.size 30 [.int .i64 0, .slice none 0 0, .slice none 0 0]) := hide (Row.new w _ _)
  have S1 : Hid (w.heap.size + 1 < ((w.alloc (.cells #[.int .i64 0, .slice none 0 0, .slice none 0 0] 30)).alloc (.cells #[.int .i64 0, .slice none 0 0, .slice none 0 0] 30)).drew.heap.size) := hide (by show _ < ((w.alloc _).alloc _).heap.size; simp)
  have S2 : Hid (w.heap.size < (w.alloc (.cells #[.int .i64 0, .slice none 0 0, .slice none 0 0] 30)).drew.heap.size) := hide (by show _ < (w.alloc _).heap.size; simp)
  go_cut [9] (fun v wx => Hid (FnS g P w v wx))
  case first =>
    go_region_held3 (fun w' => w'.cell? ⟨bp, op + i, none⟩ = some (.int .i64 P)) (first | go_keep | exact u1 | exact (World.cell?_alloc_lt _ _ _ hbw1).trans u1 | exact keep3 u1 hbF)
      (first
        | (go_at_call 60; refine (slots_any g 6 ((w.alloc (.cells #[.int .i64 0, .slice none 0 0, .slice none 0 0] 30)).alloc (.cells #[.int .i64 0, .slice none 0 0, .slice none 0 0] 30)).drew (hide (by (repeat (first | exact h.out | refine Codes.alloc ?_ _ | refine Codes.drew ?_)))) (by omega)).mono ?_; rintro e w1 ⟨A1, c1, l, rfl, hA1, hown, hl6, hok, hC1, hG1⟩; have hlt2 := L1.out; have hbw1 : bp < w1.heap.size := (Nat.lt_of_lt_of_le hlt2 hG1.size); have u1 : w1.cell? ⟨bp, op + i, none⟩ = some (.int .i64 P) := (by refine gkeep hG1 hlt2 hbg ?_; go_keep); have rF := RF.out.grown hG1 (fun e => by injection e with e; omega); have f0 := rF.cell (k := 0) rfl; have f1 := rF.cell (k := 1) rfl; have f2 := rF.cell (k := 2) rfl; have z0 := rF.free 0; have z1 := rF.free 1; have z2 := rF.free 2; clear rF)
        | (go_at_call 60; refine (slots_any g 6 (w.alloc (.cells #[.int .i64 0, .slice none 0 0, .slice none 0 0] 30)).drew (hide (by (repeat (first | exact h.out | refine Codes.alloc ?_ _ | refine Codes.drew ?_)))) (by omega)).mono ?_; rintro e w1 ⟨A1, c1, l, rfl, hA1, hown, hl6, hok, hC1, hG1⟩; have hlt2 := L2.out; have hbw1 : bp < w1.heap.size := (Nat.lt_of_lt_of_le hlt2 hG1.size); have u1 : w1.cell? ⟨bp, op + i, none⟩ = some (.int .i64 P) := (by refine gkeep hG1 hlt2 hbg ?_; go_keep)))
    all_goals go_wp2_with fail
    all_goals go_meet
    all_goals first
      | exact hide (fns_soon S1.out hgl Q1.out RF.out G1.out hown hl6 hok hC1 hG1)
      | exact hide (fns_late S2.out hgl Q2.out G2.out hown hl6 hok hC1 hG1)
  case rest =>
    obtain ⟨wb, rfl⟩ : ∃ wb : World, wb = wc := ⟨_, rfl⟩
    obtain ⟨F, A1, c1, l, rfl, hF, rF, r0, hcap, hfar, hsee, hl6, hok, hC, hG⟩ := hcut.out
    have RF := hide rF
    have R0 := hide r0
    have HCap := hide hcap
    have HFar := hide hfar
    have HSee := hide hsee
    have HOK := hide hok
    have HG := hide hG
    have hFl : F < wb.heap.size := rF.lt
    have hgc : g < wb.heap.size := by omega
    have hwc : w.heap.size ≤ wb.heap.size := hG.size
    have HI : Hid (CodeI np i P l g 0 wb (.slice none 0 0) wb) := hide ⟨[], by simp, (fun x hx => by cases hx), World.ownsRow_nil _ _ _ _, hC, World.grownBy.refl _ _⟩
    have hpr := hpb.out P (by rw [← HP.out]; exact List.getElem_mem hil)
    obtain ⟨P0, P3⟩ := hpr
    clear rF r0 hcap hfar hsee hok hC hG hcut u0 L1 L2 G1 G2 Q1 Q2 S1 S2
    go_wp2_with fail
    go_loopw [10, 11] (fun v sv wr => ∃ s : Nat, s ≤ l.length ∧ sv = .int .i64 (s : Int) ∧ Hid (CodeI np i P l g s wb v wr)) (fun _ sv _ => l.length - (intOf sv).toNat)
    case atStart => exact ⟨0, by omega, rfl, HI⟩
    case round =>
      obtain ⟨s, hsl, rfl, hI⟩ := hrel
      obtain ⟨xs, hxn, hxp, hown, hC, hG⟩ := hI.out
      have HC := hide hC
      have HGr := hide hG
      have HO := hide hown
      have HX := hide hxp
      have f1 := (RF.out.grown hG (fun e => by injection e with e; omega)).cell (k := 1) rfl
      clear hC hG hown hxp
      by_cases hlt : s < l.length
      · have hlz : (s : Int) < (l.length : Int) := by omega
        go_wp2_with fail
        refine (c 4 _ HC (by omega) (by omega)).mono ?_
        rintro e w5 ⟨u, rfl, u0', u1', hC5, hG5, hzz5⟩
        have HC5 := hide hC5
        have HG5 := hide (HGr.out.trans hG5)
        have HO5 := hide (own_stay HO.out hgc hG5)
        have HK5 := hide ((hI.out.skip hgc hC5 hG5).more (by omega : s ≤ s + 1))
        clear hC5 hG5 hzz5 f1
        by_cases hu3 : u < 3
        · go_wp2_with fail
          refine (c 4 _ HC5 (by omega) (by omega)).mono ?_
          rintro e w6 ⟨y, rfl, y0, y1, hC6, hG6, hzz6⟩
          have HC6 := hide hC6
          have HG6 := hide (HG5.out.trans hG6)
          have HO6 := hide (own_stay HO5.out hgc hG6)
          clear hC6 hG6 hzz6
          go_wp2_with (at_builtin; refine wpList_append_own _ rfl (.tmp 33) (.tmp 38) 28 rfl wb.heap.size 54 i0 (.agg #[.int .i64 0, .int .i64 0, .int .i64 0, .int .i64 0, .int .u64 0]) 5 40 Tryd.underlying28 hi hz0 hz1 hz2 rfl (by decide) _ xs.length (icells xs) rfl (HO6.out.alloc _) ⟨_, 0, none⟩ 1 1 [.int .i64 16, .int .i64 (s : Int), .int .i64 y, .int .i64 0, .int .u64 0] rfl rfl (five_new _ ⟨16, (s : Int), y, 0, 0⟩ _) (five_cells ⟨16, (s : Int), y, 0, 0⟩) (by unfold maxLen; omega) (by omega) (by simp; have := HG6.out.size; omega) ?_)
          intro v' w7 ho7 hg7 _
          have HN := hide (CodeI.add (x := ⟨16, (s : Int), y, 0, 0⟩) (by omega : xs.length + 1 ≤ s + 1) HX.out (.inl (good_store (by omega) (by omega) y0 (by omega))) hgc HO6.out HC6.out HG6.out ho7 hg7)
          clear ho7 hg7
          go_wp2_with fail
          go_roundw
          case rel => exact ⟨s + 1, by omega, by go_num, HN⟩
          case measure => simp [intOf]; omega
        · go_wp2_with fail
          go_roundw
          case rel => exact ⟨s + 1, by omega, by go_num, HK5⟩
          case measure => simp [intOf]; omega
      · obtain rfl : s = l.length := by omega
        have hmz : (most : Int) + 1 ≤ 4294967296 := by omega
        go_wp2_with fail
        refine (c ((most : Int) + 1) _ HC (by omega) (by omega)).mono ?_
        rintro e w5 ⟨u, rfl, u0', u1', hC5, hG5, hzz5⟩
        obtain ⟨m, rfl⟩ := Int.eq_ofNat_of_zero_le u0'
        have HK5 := hide ((hI.out.skip hgc hC5 hG5).more (by omega : l.length ≤ 6))
        clear hC5 hG5 hzz5 f1 HC HGr HO HX hxn xs hI
        go_wp2_with fail
        go_loopw [10, 12] (fun v nv wr => ∃ k : Nat, k ≤ most ∧ nv = .int .i64 (k : Int) ∧ Hid (CodeI np i P l g (6 + 5 * (most - k)) wb v wr)) (fun _ nv _ => (intOf nv).toNat)
        case atStart => exact ⟨m, by omega, rfl, hide (HK5.out.more (by omega))⟩
        case round =>
          obtain ⟨k, hkm, rfl, hI⟩ := hrel
          obtain ⟨xs, hxn, hxp, hown, hC, hG⟩ := hI.out
          have HC := hide hC
          have HGr := hide hG
          have HO := hide hown
          have HX := hide hxp
          by_cases hlt : 0 < k
          · obtain ⟨k, rfl⟩ : ∃ j, k = j + 1 := ⟨k - 1, by omega⟩
            have hlz : (0 : Int) < ((k + 1 : Nat) : Int) := by omega
            have rF' := RF.out.grown hG (fun e => by injection e with e; omega)
            have f0 := rF'.cell (k := 0) rfl
            have f1 := rF'.cell (k := 1) rfl
            have f2 := rF'.cell (k := 2) rfl
            have hGw : w.grownBy wr (some g) := HG.out.trans hG
            have hsl' : Sees wr wb.heap.size A1 (pcells l) := HSee.out.keepF (lo := g + 1) (HFar.out.1.more (by omega)) fun p h1 h2 => World.cell?_of_block (hG.block p.block h2 (fun e => by injection e with e; omega))
            have hps' : Sees wr B (some ⟨bp, op, none⟩) (cellsJ ps) := hps.out.keepF hfp.out fun p h1 h2 => World.cell?_of_block (hGw.block p.block (by omega) (fun e => by injection e with e; omega))
            have hwr : wb.heap.size ≤ wr.heap.size := hG.size
            have cb := body_any g P A1 l.length c1 none 0 0 l i (some ⟨bp, op, none⟩) np cp ps wb.heap.size wr HC (hide rfl) (by omega) (hide hsl') (hide (HFar.out.1.more (by omega))) hpl hnp (hide (hps'.more (by omega))) hfp hpb hin P0 (by omega) hwr
            have CB := hide cb
            clear hC hG hown hxp rF' hGw hsl' hps' cb
            go_wp2_with fail
            refine (CB.out).mono ?_
            rintro e w5 ⟨A5, c5, ys, rfl, hA5, hn5, hy4, hf5, hs5, hyg, hC5, hG5⟩
            have HG5 := hide (HGr.out.trans hG5)
            have HO5 := hide (own_stay HO.out hgc hG5)
            have HC5 := hide hC5
            have HYG := hide hyg
            have HA5 := hide hA5
            have HS5 := hide hs5
            have HN5 := hide hn5
            clear hA5 hf5 hs5 hyg hC5 hG5 hn5 f0 f1 f2 CB
            go_wp2_with (at_builtin; refine wpList_append_seesN rfl (.tmp 48) (.tmp 53) 28 rfl wb.heap.size 54 i0 (.agg #[.int .i64 0, .int .i64 0, .int .i64 0, .int .i64 0, .int .u64 0]) 5 40 Tryd.underlying28 hi hz0 hz1 hz2 rfl (by decide) _ xs.length (icells xs) rfl HO5.out _ A5 ys.length c5 (icells ys) rfl HA5 (hide (icells_length ys)) HS5 HN5 (icells_oneCell ys) (by unfold maxLen; omega) (by omega) (by have := HG5.out.size; omega) ?_)
            intro v6 w6 ho6 hg6
            have hI6 := CodeI.app (n := 6 + 5 * (most - (k + 1)) + 4) (by omega) HX.out (fun y hy => .inl (HYG.out y hy)) hgc HO5.out HC5.out HG5.out ho6 hg6
            have HI6 := hide hI6
            obtain ⟨zs, hzn, hzp, hozs, hC6, hG6⟩ := hI6
            have HC6 := hide hC6
            have HG6 := hide hG6
            clear ho6 hg6 hozs hzp hzn zs hC6 hG6
            go_wp2_with fail
            refine (c 9 _ HC6 (by omega) (by omega)).mono ?_
            rintro e w7 ⟨u, rfl, u0', u1', hC7, hG7, hzz7⟩
            have HI7 := hide (HI6.out.skip hgc hC7 hG7)
            have HC7 := hide hC7
            clear hC7 hG7 hzz7 HI6 HC6 HG6
            rcases (show u = 7 ∨ u = 8 ∨ u < 7 by omega) with rfl | rfl | hu7
            · go_wp2_with fail
              refine (c 4 _ HC7 (by omega) (by omega)).mono ?_
              rintro e w8 ⟨y, rfl, y0, y1, hC8, hG8, hzz8⟩
              have hI8 := HI7.out.skip hgc hC8 hG8
              obtain ⟨zs, hzn, hzp, hozs, hC8', hG8'⟩ := hI8
              have HZ := hide hzp
              have HO8 := hide hozs
              have HC8 := hide hC8
              have HG8 := hide hG8'
              clear hC8 hG8 hzz8 hzp hozs hC8' hG8'
              go_wp2_with (at_builtin; refine wpList_append_own _ rfl (.tmp 59) (.tmp 63) 28 rfl wb.heap.size 54 i0 (.agg #[.int .i64 0, .int .i64 0, .int .i64 0, .int .i64 0, .int .u64 0]) 5 40 Tryd.underlying28 hi hz0 hz1 hz2 rfl (by decide) _ zs.length (icells zs) rfl (HO8.out.alloc _) ⟨_, 0, none⟩ 1 1 [.int .i64 21, .int .i64 y, .int .i64 (-1), .int .i64 0, .int .u64 0] rfl rfl (five_new _ ⟨21, y, (-1), 0, 0⟩ _) (five_cells ⟨21, y, (-1), 0, 0⟩) (by unfold maxLen; omega) (by omega) (by simp; have := HG8.out.size; omega) ?_)
              intro v' w9 ho9 hg9 _
              have HN := hide (CodeI.add (x := ⟨21, y, -1, 0, 0⟩) (by omega : zs.length + 1 ≤ 6 + 5 * (most - k)) HZ.out (.inr (.inl ⟨y, y0, by omega, rfl⟩)) hgc HO8.out HC8.out HG8.out ho9 hg9)
              clear ho9 hg9
              go_wp2_with fail
              go_roundw
              case rel => exact ⟨k, by omega, by go_num, HN⟩
              case measure => simp [intOf]
            · go_wp2_with fail
              refine (c 3 _ HC7 (by omega) (by omega)).mono ?_
              rintro e w8 ⟨y, rfl, y0, y1, hC8, hG8, hzz8⟩
              have hI8 := HI7.out.skip hgc hC8 hG8
              have HI8 := hide hI8
              obtain ⟨zs, hzn, hzp, hozs, hC8', hG8'⟩ := hI8
              have HZ := hide hzp
              have HO8 := hide hozs
              have HC8 := hide hC8
              have HG8 := hide hG8'
              clear hC8 hG8 hzz8 hzp hozs hC8' hG8'
              by_cases hy2 : y = 2
              · subst hy2
                go_wp2_with (at_builtin; refine wpList_append_own _ rfl (.tmp 70) (.tmp 72) 28 rfl wb.heap.size 54 i0 (.agg #[.int .i64 0, .int .i64 0, .int .i64 0, .int .i64 0, .int .u64 0]) 5 40 Tryd.underlying28 hi hz0 hz1 hz2 rfl (by decide) _ zs.length (icells zs) rfl (HO8.out.alloc _) ⟨_, 0, none⟩ 1 1 [.int .i64 20, .int .i64 (-1), .int .i64 0, .int .i64 0, .int .u64 0] rfl rfl (five_new _ ⟨20, (-1), 0, 0, 0⟩ _) (five_cells ⟨20, (-1), 0, 0, 0⟩) (by unfold maxLen; omega) (by omega) (by simp; have := HG8.out.size; omega) ?_)
                intro v' w9 ho9 hg9 _
                have HN := hide (CodeI.add (x := ⟨20, -1, 0, 0, 0⟩) (by omega : zs.length + 1 ≤ 6 + 5 * (most - k)) HZ.out (.inr (.inr rfl)) hgc HO8.out HC8.out HG8.out ho9 hg9)
                clear ho9 hg9
                go_wp2_with fail
                go_roundw
                case rel => exact ⟨k, by omega, by go_num, HN⟩
                case measure => simp [intOf]
              · have hy2' : (y == 2) = false := by simpa using hy2
                go_wp2_with fail
                go_roundw
                case rel => exact ⟨k, by omega, by go_num, hide (HI8.out.more (by omega))⟩
                case measure => simp [intOf]
            · have u7 : (u == 7) = false := by simp; omega
              have u8 : (u == 8) = false := by simp; omega
              go_wp2_with fail
              go_roundw
              case rel => exact ⟨k, by omega, by go_num, hide (HI7.out.more (by omega))⟩
              case measure => simp [intOf]
          · obtain rfl : k = 0 := by omega
            clear hC hG hown hxp
            have rN := Row.new wr 54 [.int .i64 23, .int .i64 0, .int .i64 0, .int .i64 0, .int .u64 0]
            have HRN := hide rN
            have HIA := hide (hI.out.skip hgc (HC.out.alloc (.cells #[.int .i64 23, .int .i64 0, .int .i64 0, .int .i64 0, .int .u64 0] 54)) (World.grownBy_alloc _ _ _))
            have HCA := hide (HC.out.alloc (.cells #[.int .i64 23, .int .i64 0, .int .i64 0, .int .i64 0, .int .u64 0] 54))
            have hgr : g < wr.heap.size := by have := HGr.out.size; omega
            have hwr : wb.heap.size ≤ wr.heap.size := HGr.out.size
            have HOB := hide (fun k hk => (HO.out.lt k hk).2)
            clear rN hI HC HGr HO HX
            go_wp2_with fail
            refine (c 12 _ HCA (by omega) (by omega)).mono ?_
            rintro e w5 ⟨u, rfl, u0', u1', hC5, hG5, hzz5⟩
            have HR5 := hide (HRN.out.grown hG5 (fun e => by injection e with e; omega))
            have HI5 := hide (HIA.out.skip hgc hC5 hG5)
            have HC5 := hide hC5
            clear hC5 hG5 hzz5 HRN HIA HCA
            by_cases hu : u = 11
            case' pos =>
              subst hu
              go_wp2_with fail
              refine (cword_any g _ HC5).mono ?_
              rintro e w6 ⟨m, rfl, hm6, hC6, hG6, hzz6⟩
              have HR6 := hide (HR5.out.grown hG6 (fun e => by injection e with e; omega))
              have HI6 := hide (HI5.out.skip hgc hC6 hG6)
              have HM := hide hm6
              have x0 := HR6.out.cell (k := 0) rfl
              have x1 := HR6.out.cell (k := 1) rfl
              have x2 := HR6.out.cell (k := 2) rfl
              have x3 := HR6.out.cell (k := 3) rfl
              have x4 := HR6.out.cell (k := 4) rfl
              have z0 := HR6.out.free 0
              have z1 := HR6.out.free 1
              have z2 := HR6.out.free 2
              have z3 := HR6.out.free 3
              have z4 := HR6.out.free 4
              clear hC6 hG6 hzz6 hm6
              go_upto_region 21 with (fail)
              obtain ⟨wz, hwz⟩ : ∃ wz, ((((w6.setCell ⟨wr.heap.size, 0, none⟩ (.int .i64 24)).setCell ⟨wr.heap.size, 1, none⟩ (.int .i64 0)).setCell ⟨wr.heap.size, 2, none⟩ (.int .i64 0)).setCell ⟨wr.heap.size, 3, none⟩ (.int .i64 0)).setCell ⟨wr.heap.size, 4, none⟩ (.int .u64 m) = wz := ⟨_, rfl⟩
              have rz := ((((HR6.out.set_ 0 (.int .i64 24)).set_ 1 (.int .i64 0)).set_ 2 (.int .i64 0)).set_ 3 (.int .i64 0)).set_ 4 (.int .u64 m)
              have iz := ((((HI6.out.cell HOB.out hwr hgr 0 (.int .i64 24)).cell HOB.out hwr hgr 1 (.int .i64 0)).cell HOB.out hwr hgr 2 (.int .i64 0)).cell HOB.out hwr hgr 3 (.int .i64 0)).cell HOB.out hwr hgr 4 (.int .u64 m)
              rw [hwz] at rz iz ⊢
              have HE : Hid (endI ⟨24, 0, 0, 0, m⟩) := hide (.inr ⟨m, HM.out, rfl⟩)
              obtain ⟨o, ho⟩ : ∃ o : Int, 24 = o := ⟨_, rfl⟩
              rw [ho] at HE
              have q0 : wz.cell? ⟨wr.heap.size, 0, none⟩ = some (.int .i64 o) := ho ▸ rz.cell (k := 0) rfl
              have q1 := rz.cell (k := 1) rfl
              have q2 := rz.cell (k := 2) rfl
              have q3 := rz.cell (k := 3) rfl
              have q4 : wz.cell? ⟨wr.heap.size, 4, none⟩ = some (.int .u64 m) := rz.cell (k := 4) rfl
              have HIZ := hide iz
              clear hwz rz iz ho x0 x1 x2 x3 x4 z0 z1 z2 z3 z4 HR5 HI5 HC5 HR6 HI6 HM
            case' neg =>
              have hu' : (u == 11) = false := by simpa using hu
              obtain ⟨wz, rfl⟩ : ∃ wz : World, wz = w5 := ⟨_, rfl⟩
              have rz := HR5.out
              have HE : Hid (endI ⟨23, 0, 0, 0, 0⟩) := hide (.inl rfl)
              obtain ⟨o, ho⟩ : ∃ o : Int, 23 = o := ⟨_, rfl⟩
              obtain ⟨m, hm'⟩ : ∃ m : Int, 0 = m := ⟨_, rfl⟩
              have q0 : wz.cell? ⟨wr.heap.size, 0, none⟩ = some (.int .i64 o) := ho ▸ rz.cell (k := 0) rfl
              have q1 := rz.cell (k := 1) rfl
              have q2 := rz.cell (k := 2) rfl
              have q3 := rz.cell (k := 3) rfl
              have q4 : wz.cell? ⟨wr.heap.size, 4, none⟩ = some (.int .u64 m) := hm' ▸ rz.cell (k := 4) rfl
              have HE : Hid (endI ⟨o, 0, 0, 0, m⟩) := hide (by rw [← ho, ← hm']; exact HE.out)
              have HIZ := HI5
              clear ho hm' rz HR5 HI5 HC5
              go_upto_region 21 with (fail)
            all_goals
              obtain ⟨zs, hzn, hzp, hozs, hCz, hGz⟩ := HIZ.out
              have HOZ := hide hozs
              have HGZ := hide hGz
              have HCZ := hide hCz
              have HZP := hide hzp
              clear hozs hGz hCz hzp
              go_wp2_with (at_builtin; refine wpList_append_own _ rfl (.tmp 81) (.tmp 83) 28 rfl wb.heap.size 54 i0 (.agg #[.int .i64 0, .int .i64 0, .int .i64 0, .int .i64 0, .int .u64 0]) 5 40 Tryd.underlying28 hi hz0 hz1 hz2 rfl (by decide) _ zs.length (icells zs) rfl (HOZ.out.alloc _) ⟨_, 0, none⟩ 1 1 [.int .i64 o, .int .i64 0, .int .i64 0, .int .i64 0, .int .u64 m] rfl rfl (five_new _ ⟨o, 0, 0, 0, m⟩ _) (five_cells ⟨o, 0, 0, 0, m⟩) (by unfold maxLen; omega) (by omega) (by simp; have := HGZ.out.size; omega) ?_)
              intro v' w9 ho9 hg9 _
              have HFX := hide (FixI.start hzn HZP.out HE.out hgc HOZ.out HCZ.out HGZ.out ho9 hg9)
              clear ho9 hg9 HOZ HGZ HCZ HZP q0 q1 q2 q3 q4
              obtain ⟨G, cG, rfl, hF0⟩ := HFX.out
              have HF0 := hide hF0
              have hn1 : zs.length + 1 ≤ 7 + 5 * most := by omega
              clear hF0 HFX
              obtain ⟨n, hn⟩ : ∃ n, zs.length + 1 = n := ⟨_, rfl⟩
              rw [hn] at HF0 hn1 ⊢
              have hnp : 1 ≤ n := by omega
              have hn512 : n ≤ 507 := by omega
              clear hn hzn HIZ
              go_wp2_with fail
              obtain ⟨we, rfl⟩ : ∃ we : World, we = wr := ⟨_, rfl⟩
              go_loopw [14, 15] (fun kv tv wr => ∃ k : Nat, k ≤ n ∧ kv = .int .i64 (k : Int) ∧ Hid (FixI np i P l g n wb G cG k wr)) (fun kv _ _ => n - (intOf kv).toNat)
              case atStart => exact ⟨0, by omega, rfl, HF0⟩
              case round =>
                obtain ⟨k, hk, rfl, hF⟩ := hrel
                by_cases hlt : k < n
                · obtain ⟨ys, hyl, hyd, hyp, hye, hyo, hyC, hyG⟩ := hF.out
                  have hkl : k < ys.length := by omega
                  have hx := List.getElem?_eq_getElem hkl
                  obtain ⟨x, hxe⟩ : ∃ x, ys[k] = x := ⟨_, rfl⟩
                  rw [hxe] at hx
                  have hkind := hyp k x hx (Nat.le_refl _)
                  have HX := hide hx
                  have HYD := hide hyd
                  have HYP := hide hyp
                  have HYE := hide hye
                  have HYO := hide hyo
                  have HYC := hide hyC
                  have HYG := hide hyG
                  have hlz : (k : Int) < (n : Int) := by omega
                  have hkz : (0 : Int) ≤ (k : Int) := by omega
                  clear hxe hyd hyp hye hyo hyC hyG hx
                  go_wp2_with fail
                  refine (c 8 _ HYC (by omega) (by omega)).mono ?_
                  rintro e w5 ⟨v, rfl, v0, v1, hC5, hG5, hzz5⟩
                  have HC5 := hide hC5
                  have HG5 := hide (HYG.out.trans hG5)
                  have HO5 := hide (own_stay HYO.out hgc hG5)
                  obtain ⟨⟨x0, x1, x2⟩, z1, z2⟩ := row_five HO5.out HX.out
                  clear hC5 hG5 hzz5 HYO HYC HYG
                  have hk3 : (x.op ≠ 20 ∧ x.op ≠ 21 ∧ doneI np i P l n x) ∨ (∃ a, 0 ≤ a ∧ a < 8 ∧ x = ⟨21, a, -1, 0, 0⟩) ∨ x = ⟨20, -1, 0, 0, 0⟩ := by
                    rcases hkind with (h | h | h) | h
                    · exact .inl ⟨h.1.1, h.1.2.1, done_good h⟩
                    · exact .inr (.inl h)
                    · exact .inr (.inr h)
                    · refine .inl ⟨?_, ?_, done_end h⟩ <;> (rcases h with rfl | ⟨m, _, rfl⟩ <;> simp)
                  clear hkind
                  rcases hk3 with ⟨h20, h21, hd⟩ | ⟨a, a0, a1, rfl⟩ | rfl
                  · have b20 : (x.op == 20) = false := by simpa using h20
                    have b21 : (x.op == 21) = false := by simpa using h21
                    have HD5 := hide (FixI.pass hyl HYD.out HYP.out HYE.out HX.out hd HO5.out HC5.out HG5.out)
                    clear hd h20 h21
                    rcases (show (k : Int) + v - 2 < 0 ∨ (n : Int) ≤ (k : Int) + v - 2 ∨ (0 ≤ (k : Int) + v - 2 ∧ (k : Int) + v - 2 < n) by omega) with ht | ht | ⟨ht, ht'⟩
                    · go_wp2_with fail
                      go_roundw
                      case rel => exact ⟨k + 1, by omega, by go_num, hide (HD5.out)⟩
                      case measure => simp [intOf]; omega
                    · have hd0 : decide ((k : Int) + v - 2 < 0) = false := decide_eq_false (by omega)
                      go_wp2_with fail
                      go_roundw
                      case rel => exact ⟨k + 1, by omega, by go_num, hide (HD5.out)⟩
                      case measure => simp [intOf]; omega
                    · have hd0 : decide ((k : Int) + v - 2 < 0) = false := decide_eq_false (by omega)
                      have hd1 : decide ((n : Int) ≤ (k : Int) + v - 2) = false := decide_eq_false (by omega)
                      have HT0 := hide ht
                      have HT1 := hide ht'
                      clear ht ht'
                      go_wp2_with fail
                      go_roundw
                      case rel => exact ⟨k + 1, by omega, by go_num, hide (HD5.out)⟩
                      case measure => simp [intOf]; omega
                  · simp only at x0 x1 x2
                    rcases (show (k : Int) + v - 2 < 0 ∨ (n : Int) ≤ (k : Int) + v - 2 ∨ (0 ≤ (k : Int) + v - 2 ∧ (k : Int) + v - 2 < n) by omega) with ht | ht | ⟨ht, ht'⟩
                    · go_wp2_with fail
                      go_roundw
                      case rel => exact ⟨k + 1, by omega, by go_num, hide (FixI.branch hyl HYD.out HYP.out HYE.out HX.out HO5.out hgc HC5.out HG5.out a0 a1 (by omega) (by omega))⟩
                      case measure => simp [intOf]; omega
                    · have hd0 : decide ((k : Int) + v - 2 < 0) = false := decide_eq_false (by omega)
                      go_wp2_with fail
                      go_roundw
                      case rel => exact ⟨k + 1, by omega, by go_num, hide (FixI.branch hyl HYD.out HYP.out HYE.out HX.out HO5.out hgc HC5.out HG5.out a0 a1 (by omega) (by omega))⟩
                      case measure => simp [intOf]; omega
                    · have hd0 : decide ((k : Int) + v - 2 < 0) = false := decide_eq_false (by omega)
                      have hd1 : decide ((n : Int) ≤ (k : Int) + v - 2) = false := decide_eq_false (by omega)
                      have HT0 := hide ht
                      have HT1 := hide ht'
                      clear ht ht'
                      go_wp2_with fail
                      go_roundw
                      case rel => exact ⟨k + 1, by omega, by go_num, hide (FixI.branch hyl HYD.out HYP.out HYE.out HX.out HO5.out hgc HC5.out HG5.out a0 a1 HT0.out HT1.out)⟩
                      case measure => simp [intOf]; omega
                  · simp only at x0 x1 x2
                    rcases (show (k : Int) + v - 2 < 0 ∨ (n : Int) ≤ (k : Int) + v - 2 ∨ (0 ≤ (k : Int) + v - 2 ∧ (k : Int) + v - 2 < n) by omega) with ht | ht | ⟨ht, ht'⟩
                    · go_wp2_with fail
                      go_roundw
                      case rel => exact ⟨k + 1, by omega, by go_num, hide (FixI.jump hyl HYD.out HYP.out HYE.out HX.out HO5.out hgc HC5.out HG5.out (by omega) (by omega))⟩
                      case measure => simp [intOf]; omega
                    · have hd0 : decide ((k : Int) + v - 2 < 0) = false := decide_eq_false (by omega)
                      go_wp2_with fail
                      go_roundw
                      case rel => exact ⟨k + 1, by omega, by go_num, hide (FixI.jump hyl HYD.out HYP.out HYE.out HX.out HO5.out hgc HC5.out HG5.out (by omega) (by omega))⟩
                      case measure => simp [intOf]; omega
                    · have hd0 : decide ((k : Int) + v - 2 < 0) = false := decide_eq_false (by omega)
                      have hd1 : decide ((n : Int) ≤ (k : Int) + v - 2) = false := decide_eq_false (by omega)
                      have HT0 := hide ht
                      have HT1 := hide ht'
                      clear ht ht'
                      go_wp2_with fail
                      go_roundw
                      case rel => exact ⟨k + 1, by omega, by go_num, hide (FixI.jump hyl HYD.out HYP.out HYE.out HX.out HO5.out hgc HC5.out HG5.out HT0.out HT1.out)⟩
                      case measure => simp [intOf]; omega
                · obtain rfl : k = n := by omega
                  obtain ⟨ys, hyl, hgood, hyo, hyC, hyG⟩ := hF.out.good (most := most) hnp hn1 hm ⟨P0, by omega⟩ hl6 HOK.out
                  have rF' := RF.out.grown hyG (fun e => by injection e with e; omega)
                  have rR' := R0.out.grown hyG (fun e => by injection e with e; omega)
                  have f0 := rF'.cell (k := 0) rfl
                  have f1 := rF'.cell (k := 1) rfl
                  have f2 := rF'.cell (k := 2) rfl
                  have g2 := rF'.free 2
                  have r0 := rR'.cell (k := 0) rfl
                  have r1 := rR'.cell (k := 1) rfl
                  have r2 := rR'.cell (k := 2) rfl
                  have p0 := rR'.free 0
                  have p1 := rR'.free 1
                  have p2 := rR'.free 2
                  have HGD := hide hgood
                  have HYO := hide hyo
                  have HYC := hide hyC
                  have HYG := hide hyG
                  clear hgood hyo hyC hyG rF' rR' hF
                  go_wp2_with fail
                  obtain ⟨wf, hwf⟩ : ∃ wf, (((wr.setCell ⟨F, 2, none⟩ (.slice (some ⟨G, 0, none⟩) k cG)).setCell ⟨w.heap.size, 0, none⟩ (.int .i64 P)).setCell ⟨w.heap.size, 1, none⟩ (.slice A1 l.length c1)).setCell ⟨w.heap.size, 2, none⟩ (.slice (some ⟨G, 0, none⟩) k cG) = wf := ⟨_, rfl⟩
                  have hfin := fn_end (ps := ps) (np := np) (i := i) (most := most) hwf hF hFl hgl hgc hwc HP.out hil hyl (by omega) HGD.out HYO.out HYC.out HYG.out HG.out HCap.out HFar.out HSee.out R0.out
                  rw [hwf]
                  obtain ⟨h1, k0, k1, k2⟩ := hfin
                  have H1 := hide h1
                  clear hwf h1 f0 f1 f2 g2 r0 r1 r2 p0 p1 p2
                  exact bodyPost_ret (v := fv P A1 l.length c1 (some ⟨G, 0, none⟩) k cG) (by simp [results, Tryd.results42, go_sem, k0, k1, k2]) rfl H1.out
end Go.Proofs.YtidlnecgfgnllaaDoor
end
