import Derived.Test.YtpkdeblbobfjbaaDoorMGr
import Derived.Test.YtpkdeblbobfjbaaDoorMGs
import Derived.Test.YtpkdeblbobfjbaaDoorMDprog
import Derived.Test.YtpkdeblbobfjbaaDoorMGd
import Derived.Test.YtpkdeblbobfjbaaDoorMBoxes
import Derived.Deep.RegionHeld3
import Derived.Deep.DrawnRows
set_option linter.unusedVariables false
set_option linter.unusedSimpArgs false
section
/-
  The contract of spillframedraw's Odd: a program with one thing changed. Conditions: the receiver is a list of choices; the program lies behind it; each function has an instruction.
-/
namespace Go.Proofs.YtpkdeblbobfjbaaDoor
open Go.RowKit

/-- Some program. -/
def OddPost (lo g n : Nat) (w : World) (e : Ending) (w' : World) : Prop :=
  ∃ (A : Option Addr) (c : Nat) (hs : List Hd) (F : Pg), e = .returned (gv A n c) ∧ PgAt w' lo w'.heap.size A n c hs F ∧ Codes w' g ∧ w.grownBy w' (some g) ∧ ∀ f ∈ F, ∀ x ∈ f.code, immI x
theorem imm_set {l : List Ins} {k : Nat} {y : Ins} (h : ∀ x ∈ l, immI x) (hy : immI y) : ∀ x ∈ l.set k y, immI x := fun x hx => (List.mem_or_eq_of_mem_set hx).elim (h x) (fun e => e ▸ hy)

/-- What stands in front of the change: the copied heads, the function's box X, its copied code and slots. -/
structure OddS (g n lo : Nat) (w : World) (A : Option Addr) (c : Nat) (hs : List Hd) (F : Pg) (L cL X : Nat) (P : Int) (As : Option Addr) (cs : Nat) (l : List (Int × Int)) (G cG : Nat) (ys : List Ins) (wx : World) : Prop where
  own : wx.ownsRow (w.heap.size + 2) 61 3 (.slice (some ⟨L, 0, none⟩) n cL) n (hcells hs)
  lx : L < X
  box : Row wx X 61 [.int .i64 P, .slice As l.length cs, .slice (some ⟨G, 0, none⟩) ys.length cG]
  res : Row wx (w.heap.size + 1) 33 [.slice none 0 0]
  slots : wx.ownsRow (X + 1) 66 2 (.slice As l.length cs) l.length (pcells l)
  code : wx.ownsRow (X + 1) 24 5 (.slice (some ⟨G, 0, none⟩) ys.length cG) ys.length (icells ys)
  apart : Value.ownBlock (.slice As l.length cs) ≠ some G
  codes : Codes wx g
  grown : w.grownBy wx (some g)

theorem keep_none (v : Value) : v.ownBlock = none ∨ v.ownBlock ≠ (Value.slice none 0 0).ownBlock := by
  cases e : v.ownBlock with
  | none => exact .inl rfl
  | some k => exact .inr (by simp [Value.ownBlock])
theorem own_ne {w : World} {X : Nat} {e : TypeId} {size n : Nat} {v : Value} {xs : List Value} (h : w.ownsRow (X + 1) e size v n xs) : v.ownBlock = none ∨ v.ownBlock ≠ some X := by
  cases e' : v.ownBlock with
  | none => exact .inl rfl
  | some k => exact .inr fun h' => by have := (h.lt k e').1; injection h' with h'; omega
theorem hset3 (hs : List Hd) (i : Nat) (h h' : Hd) (hx : hs[i]? = some h) : (((hcells hs).set (i * 3) (.int .i64 h'.p)).set (i * 3 + 1) (.slice h'.a1 h'.n1 h'.c1)).set (i * 3 + 2) (.slice h'.a2 h'.n2 h'.c2) = hcells (hs.set i h') := by
  have hk : i < hs.length := (List.getElem?_eq_some_iff.1 hx).1
  have s0 := flat_set hcell_len hs i h ⟨h'.p, h.a1, h.n1, h.c1, h.a2, h.n2, h.c2⟩ hx 0 (by omega) (.int .i64 h'.p) rfl
  have s1 := flat_set hcell_len (hs.set i ⟨h'.p, h.a1, h.n1, h.c1, h.a2, h.n2, h.c2⟩) i ⟨h'.p, h.a1, h.n1, h.c1, h.a2, h.n2, h.c2⟩ ⟨h'.p, h'.a1, h'.n1, h'.c1, h.a2, h.n2, h.c2⟩ (by rw [List.getElem?_set_self hk]) 1 (by omega) (.slice h'.a1 h'.n1 h'.c1) rfl
  have s2 := flat_set hcell_len (hs.set i ⟨h'.p, h'.a1, h'.n1, h'.c1, h.a2, h.n2, h.c2⟩) i ⟨h'.p, h'.a1, h'.n1, h'.c1, h.a2, h.n2, h.c2⟩ h' (by rw [List.getElem?_set_self hk]) 2 (by omega) (.slice h'.a2 h'.n2 h'.c2) rfl
  rw [List.set_set] at s1 s2
  unfold hcells
  rw [Nat.add_zero] at s0
  rw [s0, s1, s2]
/-- The end of Odd: the changed function set back among the heads. -/
theorem odd_end {lo g n i L cL X : Nat} {A : Option Addr} {c : Nat} {hs : List Hd} {F : Pg} {w wz wf : World} {P : Int} {As : Option Addr} {ns cs : Nat} {Ac : Option Addr} {nc cc : Nat} {f' : Fn} {h0 : Hd}
    (hwf : (((wz.setCell ⟨L, i * 3, none⟩ (.int .i64 P)).setCell ⟨L, i * 3 + 1, none⟩ (.slice As ns cs)).setCell ⟨L, i * 3 + 2, none⟩ (.slice Ac nc cc)).setCell ⟨w.heap.size + 1, 0, none⟩ (.slice (some ⟨L, 0, none⟩) n cL) = wf)
    (H : PgAt w lo w.heap.size A n c hs F) (hg : g < lo) (hlo : lo ≤ w.heap.size) (ho : wz.ownsRow (w.heap.size + 2) 61 3 (.slice (some ⟨L, 0, none⟩) n cL) n (hcells hs)) (hLX : L < X) (hX : w.heap.size + 1 < X) (hi : hs[i]? = some h0)
    (hd : HdAt wz (X + 1) wz.heap.size ⟨P, As, ns, cs, Ac, nc, cc⟩ f') (hR : Row wz (w.heap.size + 1) 33 [.slice none 0 0]) (hC : Codes wz g) (hG : w.grownBy wz (some g)) (hn : n ≤ 80) (hI : ∀ f ∈ F, ∀ x ∈ f.code, immI x) (hfI : ∀ x ∈ f'.code, immI x) :
    OddPost lo g n w (.returned (gv (some ⟨L, 0, none⟩) n cL)) wf ∧ wf.cell? ⟨w.heap.size + 1, 0, none⟩ = some (.slice (some ⟨L, 0, none⟩) n cL) := by
  have hLl := ho.lt L rfl
  have hsz : wf.heap.size = wz.heap.size := by rw [← hwf]; simp [World.setCell]
  have hLR : L ≠ w.heap.size + 1 := by omega
  have other : ∀ p : Addr, p.block ≠ L → p.block ≠ w.heap.size + 1 → wf.cell? p = wz.cell? p := fun p h1 h2 => by
    rw [← hwf, World.cell?_setCell_other _ _ _ _ (fun e => by subst e; exact h2 rfl), World.cell?_setCell_other _ _ _ _ (fun e => by subst e; exact h1 rfl), World.cell?_setCell_other _ _ _ _ (fun e => by subst e; exact h1 rfl), World.cell?_setCell_other _ _ _ _ (fun e => by subst e; exact h1 rfl)]
  have ho3 := (((ho.stored (i * 3) (.int .i64 P)).1.stored (i * 3 + 1) (.slice As ns cs)).1.stored (i * 3 + 2) (.slice Ac nc cc)).1
  rw [hset3 hs i h0 ⟨P, As, ns, cs, Ac, nc, cc⟩ hi] at ho3
  obtain ⟨A', c', he, hA', hnc, _, hsee⟩ := own_seen ho3
  injection he with e1 _ e3
  subst e1 e3
  have hsee' : Sees wf wf.heap.size (some ⟨L, 0, none⟩) (hcells (hs.set i ⟨P, As, ns, cs, Ac, nc, cc⟩)) := by
    rw [← hwf]
    have hz : ((((wz.setCell ⟨L, i * 3, none⟩ (.int .i64 P)).setCell ⟨L, i * 3 + 1, none⟩ (.slice As ns cs)).setCell ⟨L, i * 3 + 2, none⟩ (.slice Ac nc cc)).setCell ⟨w.heap.size + 1, 0, none⟩ (.slice (some ⟨L, 0, none⟩) n cL)).heap.size = (((wz.setCell ⟨L, i * 3, none⟩ (.int .i64 P)).setCell ⟨L, i * 3 + 1, none⟩ (.slice As ns cs)).setCell ⟨L, i * 3 + 2, none⟩ (.slice Ac nc cc)).heap.size := by simp [World.setCell]
    rw [hz]
    exact hsee.keepF (lo := w.heap.size + 2) (fun a ha => by injection ha with ha; subst ha; exact hLl.1) fun p h1 _ => World.cell?_setCell_other _ _ _ _ (fun e => by subst e; simp at h1)
  have hGf : w.grownBy wf (some g) := by
    rw [← hwf]
    exact (((hG.andThen (grown_cell _ L _ _) (fun k hk => .inl (by injection hk with hk; omega))).andThen (grown_cell _ L _ _) (fun k hk => .inl (by injection hk with hk; omega))).andThen (grown_cell _ L _ _) (fun k hk => .inl (by injection hk with hk; omega))).andThen (grown_cell _ (w.heap.size + 1) _ _) (fun k hk => .inl (by injection hk with hk; omega))
  have hCf : Codes wf g := by
    rw [← hwf]
    exact (((hC.kept (grown_cell _ L _ _) (fun k hk => by injection hk with hk; omega)).kept (grown_cell _ L _ _) (fun k hk => by injection hk with hk; omega)).kept (grown_cell _ L _ _) (fun k hk => by injection hk with hk; omega)).kept (grown_cell _ (w.heap.size + 1) _ _) (fun k hk => by injection hk with hk; omega)
  refine ⟨⟨some ⟨L, 0, none⟩, cL, hs.set i ⟨P, As, ns, cs, Ac, nc, cc⟩, F.set i f', rfl, ?_, hCf, hGf, fun y hy => (List.mem_or_eq_of_mem_set hy).elim (hI y) (fun e => e ▸ hfI)⟩, ?_⟩
  · refine H.set (fun p h1 h2 => ?_) hGf.size (Nat.le_refl _) ⟨(fun e => by cases e), hnc, by omega⟩ (fun a ha => by injection ha with ha; subst ha; simp only; omega) hsee' ?_
    · rw [other p (by omega) (by omega)]
      exact World.cell?_of_block (hG.block p.block h2 (fun e => by injection e with e; omega))
    · rw [hsz]
      exact (hd.keep fun p h1 _ => other p (by omega) (by omega)).more (Nat.le_refl _) (by omega)
  · rw [← hwf]
    have hR3 : Row (((wz.setCell ⟨L, i * 3, none⟩ (.int .i64 P)).setCell ⟨L, i * 3 + 1, none⟩ (.slice As ns cs)).setCell ⟨L, i * 3 + 2, none⟩ (.slice Ac nc cc)) (w.heap.size + 1) 33 [.slice none 0 0] := ((hR.far (p := ⟨L, _, none⟩) (by simp; omega) _).far (p := ⟨L, _, none⟩) (by simp; omega) _).far (p := ⟨L, _, none⟩) (by simp; omega) _
    exact (hR3.set_ 0 _).cell (k := 0) rfl
theorem pset2 (l : List (Int × Int)) (j : Nat) (x : Int × Int) (hx : l[j]? = some x) (s t : Int) : ((pcells l).set (j * 2) (.int .i64 s)).set (j * 2 + 1) (.int .i64 t) = pcells (l.set j (s, t)) := by
  have hm : ∀ a : Int × Int, ([Value.int .i64 a.1, .int .i64 a.2]).length = 2 := fun _ => rfl
  have hj : j < l.length := (List.getElem?_eq_some_iff.1 hx).1
  have s0 := flat_set hm l j x (s, x.2) hx 0 (by omega) (.int .i64 s) rfl
  have s1 := flat_set hm (l.set j (s, x.2)) j (s, x.2) (s, t) (by rw [List.getElem?_set_self hj]) 1 (by omega) (.int .i64 t) rfl
  rw [List.set_set] at s1
  rw [Nat.add_zero] at s0
  unfold pcells
  rw [s0, s1]
theorem slot_row {w : World} {base G n c : Nat} {t : TypeId} {ys : List (Int × Int)} {k : Nat} {x : Int × Int} (h : w.ownsRow base t 2 (.slice (some ⟨G, 0, none⟩) n c) n (pcells ys)) (hx : ys[k]? = some x) :
    (w.cell? ⟨G, k * 2, none⟩ = some (.int .i64 x.1) ∧ w.cell? ⟨G, k * 2 + 1, none⟩ = some (.int .i64 x.2)) ∧ ∀ j, w.frozen? ⟨G, j, none⟩ = false := by
  have c' := fun j u (hu : (pcells ys)[j]? = some u) => (by
    have := h.cells (g := G) rfl j u hu
    rwa [WideShapes.add_plain, Nat.zero_add] at this : w.cell? ⟨G, j, none⟩ = some u)
  exact ⟨⟨c' _ _ (pcells_at ys k x hx).1, c' _ _ (pcells_at ys k x hx).2⟩, fun j => h.frozenAt j⟩
theorem icells_take : ∀ (ys : List Ins) (k : Nat), icells (ys.take k) = (icells ys).take (k * 5)
  | [], k => by simp [icells]
  | x :: ys, 0 => by simp [icells]
  | x :: ys, k + 1 => by
    have e : icells (x :: ys) = icell x ++ icells ys := by simp [icells]
    have e2 : icells (x :: ys.take k) = icell x ++ icells (ys.take k) := by simp [icells]
    have h5 : (icell x).length = 5 := icell_len x
    rw [List.take_succ_cons, e2, e, List.take_append, h5, List.take_of_length_le (l := icell x) (by omega), show (k + 1) * 5 - 5 = k * 5 by omega, ← icells_take ys k]
theorem keep1 {w1 : World} {b o G j : Nat} {v x : Value} (h : w1.cell? ⟨b, o, none⟩ = some v) (hb : b ≠ G) : (w1.setCell ⟨G, j, none⟩ x).cell? ⟨b, o, none⟩ = some v := by
  rw [World.cell?_setCell_other _ _ _ _ (fun e => by injection e with e1; exact hb (by omega)), h]
theorem own_mono {w : World} {base base' : Nat} {e : TypeId} {size n : Nat} {v : Value} {xs : List Value} (h : w.ownsRow base e size v n xs) (hb : base' ≤ base) : w.ownsRow base' e size v n xs := by
  refine ⟨h.1, ?_⟩
  rcases h.2 with h2 | ⟨g, cap, cur, hv, hg, h3⟩
  · exact .inl h2
  · exact .inr ⟨g, cap, cur, hv, by omega, h3⟩
/-- What each operation keeps: which of them have come up, and what they have left. -/
def OddR (g n i L cL X : Nat) (A : Option Addr) (c : Nat) (hs : List Hd) (P : Int) (A1 : Option Addr) (n1 c1 : Nat) (A2 : Option Addr) (n2 c2 : Nat) (sl : List (Int × Int)) (ys : List Ins) (w : World) (l : Array Bool) (a : Act) (wr : World) : Prop :=
  ∃ (b0 b1 b2 b3 b4 b5 b6 b7 b8 b9 : Bool) (x25 x26 x27 x28 x29 x30 x31 x32 s1 s2 : Value), l = #[b0, b1, b2, b3, b4, b5, b6, b7, b8, b9] ∧ a = ⟨#[.pointer (some ⟨g, 0, none⟩), gv A n c, undef, .pointer (some ⟨w.heap.size, 0, none⟩), .pointer (some ⟨w.heap.size + 1, 0, none⟩), .slice (some ⟨L, 0, none⟩) n cL, .int .i64 (i : Int), .pointer (some ⟨X, 0, none⟩), undef, .pointer (some ⟨w.heap.size, 0, none⟩), .slice A n c, .slice (some ⟨L, 0, none⟩) n cL, .pointer (some ⟨g, 0, none⟩), .slice (some ⟨L, 0, none⟩) n cL, .int .i64 (n : Int), .int .i64 (i : Int), .slice (some ⟨L, 0, none⟩) n cL, .int .i64 (i : Int), .pointer (some ⟨L, i * 3, none⟩), fv P A1 n1 c1 A2 n2 c2, .pointer (some ⟨X, 2, none⟩), .slice A2 n2 c2, .int .i64 (n2 : Int), .bool false, undef, x25, x26, x27, x28, x29, x30, x31, x32, undef, undef, undef, undef, undef, undef, undef, undef, undef, undef, undef, undef, undef, undef, undef, undef, undef, undef, undef, undef, undef, undef, undef, undef, undef, undef, undef, undef, undef, undef, undef, undef, undef, undef, undef, undef, undef, undef, undef, undef, undef, undef, undef, undef, undef, undef, undef, undef, undef, undef, undef, undef, undef, undef, undef, undef, undef, undef, undef, undef, undef, undef, undef, undef, undef, undef, undef, undef, undef, undef, undef, undef, undef, undef, undef, undef, undef, undef, undef, undef, undef, undef, undef, undef, undef, undef, undef, undef, undef, undef, undef, undef, undef, undef, undef, undef, undef, undef, undef], []⟩ ∧ Codes wr g ∧ w.grownBy wr (some g) ∧ wr.ownsRow (w.heap.size + 2) 61 3 (.slice (some ⟨L, 0, none⟩) n cL) n (hcells hs) ∧ Row wr (w.heap.size + 1) 33 [.slice none 0 0] ∧ Row wr X 61 [.int .i64 P, s1, s2] ∧
    (b7 = false → s2 = .slice A2 n2 c2) ∧ (b9 = false → s1 = .slice A1 n1 c1) ∧ (b7 = true → b1 = true ∧ b2 = true) ∧ (b9 = true → b4 = true ∧ b5 = true) ∧ (b5 = true → b2 = true) ∧
    (b0 = true → x25 = .pointer (some ⟨X, 2, none⟩)) ∧
    (b1 = true → x26 = .slice A2 n2 c2) ∧
    (b2 = true → wr.ownsRow (X + 1) 24 5 x27 n2 (icells ys)) ∧
    (b3 = true → x28 = .pointer (some ⟨X, 1, none⟩)) ∧
    (b4 = true → x29 = .slice A1 n1 c1) ∧
    (b5 = true → wr.ownsRow (X + 1) 66 2 x30 n1 (pcells sl) ∧ ∀ k, x30.ownBlock = some k → x27.ownBlock ≠ some k) ∧
    (b6 = true → x31 = .pointer (some ⟨X, 2, none⟩)) ∧
    (b7 = true → s2 = x27) ∧
    (b8 = true → x32 = .pointer (some ⟨X, 1, none⟩)) ∧
    (b9 = true → s1 = x30)

set_option maxRecDepth 100000 in
set_option maxHeartbeats 20000000 in
theorem odd_any (g lo : Nat) (A : Option Addr) (n c : Nat) (hs : List Hd) (F : Pg) (w : World) (h : Hid (Codes w g)) (H : Hid (PgAt w lo w.heap.size A n c hs F)) (hg : g < lo) (hlo : lo ≤ w.heap.size) (hn1 : 1 ≤ n) (hn80 : n ≤ 80) (hF : Hid (∀ f ∈ F, 1 ≤ f.code.length ∧ f.code.length ≤ 1024 ∧ f.slots.length ≤ 512)) (hI : Hid (∀ f ∈ F, ∀ x ∈ f.code, immI x)) :
    Calls Tryd.prog 10 #[.pointer (some ⟨g, 0, none⟩), gv A n c] w (OddPost lo g n w) := by
  obtain ⟨j0, ji, jz0, jz1, jz2⟩ := info_parts Tryd.info61'
  have cn := next_any g
  have hgl := h.out.lt
  obtain ⟨W, hW, hbW, hsW, r0, r1⟩ := boxes2p w [.slice A n c] [.slice none 0 0] 33 33
  have HW := hide hW
  have HBW := hide hbW
  have R0 := hide r0
  have R1 := hide r1
  have HC := hide (h.out.below hbW)
  have HG := hide (grown_below hbW (some g))
  have HP := hide (H.out.below hbW)
  have x0 := r0.cell (k := 0) rfl
  clear hW hbW r0 r1
  go_enter Tryd.func10, Tryd.ntmps10
  go_wp2_with (at_builtin; refine wpList_append_seesN rfl (.const (.slice none 0 0)) (.tmp 10) 31 rfl (w.heap.size + 2) 61 j0 (.agg #[.int .i64 0, .slice none 0 0, .slice none 0 0]) 3 56 Tryd.underlying31 ji jz0 jz1 jz2 rfl (by decide) (.slice none 0 0) 0 [] rfl (World.ownsRow_nil _ _ _ _) w.heap.size A n c (hcells hs) rfl (hide H.out.cap.1) (hide (by rw [hcells_length, H.out.hd.len, H.out.len])) (hide (by rw [HW.out]; exact HP.out.see)) (hide H.out.cap.2.1) (hcells_oneCell _) (by unfold maxLen; omega) (by omega) (by simp) ?_)
  intro v1 w1 ho1 hg1
  rw [HW.out] at hg1
  obtain ⟨L, cL, rfl, hLb, hLl, hLc, _⟩ := own_block ho1 (by omega)
  have HO1 := hide ho1
  have HC1 := hide (HC.out.kept hg1 (fun k hk => by cases hk))
  have HG1 := hide (HG.out.andThen hg1 (fun k hk => by cases hk))
  have HR1 := hide (R1.out.grown hg1 (fun e => by cases e))
  have HP1 := hide (HP.out.keep (w' := w1) fun p h1 h2 => World.cell?_of_block (hg1.block p.block (by omega) (fun e => by cases e)))
  have hw1 : W.heap.size ≤ w1.heap.size := hg1.size
  clear ho1 hg1 x0 HW HC HG HP R1
  go_wp2_with fail
  refine (cn (n : Int) _ HC1 (by omega) (by omega)).mono ?_
  rintro e w2 ⟨v, rfl, v0, v1, hC2, hG2, hz2⟩
  obtain ⟨i, rfl⟩ := Int.eq_ofNat_of_zero_le v0
  have HC2 := hide hC2
  have HG2 := hide (HG1.out.trans hG2)
  have HR2 := hide (HR1.out.grown hG2 (fun e => by injection e with e; omega))
  have HO2 := hide (own_stay HO1.out (by omega) hG2)
  have HP2 := hide (HP1.out.grown hG2 hg (by omega))
  have hin : i < n := by omega
  have hil : i < F.length := by rw [H.out.len]; exact hin
  have hfi := List.getElem?_eq_getElem hil
  have hil' : i < hs.length := by rw [H.out.hd.len]; exact hil
  have hhi := List.getElem?_eq_getElem hil'
  obtain ⟨f, hf⟩ : ∃ f, F[i] = f := ⟨_, rfl⟩
  have hfb := hF.out f (hf ▸ List.getElem_mem hil)
  rw [hf] at hfi
  obtain ⟨hd0, hhd0⟩ : ∃ x, hs[i] = x := ⟨_, rfl⟩
  rw [hhd0] at hhi
  have hhd := HP2.out.hd.at_ i hd0 f hhi hfi
  obtain ⟨P, A1, n1, c1, A2, n2, c2⟩ := hd0
  obtain ⟨⟨y0, y1, y2⟩, _⟩ := hd_row HO2.out hhi
  simp only at y0 y1 y2
  have hiz : (i : Int) < (n : Int) := by omega
  have hiz0 : (0 : Int) ≤ (i : Int) := by omega
  have l2 : f.code.length = n2 := hhd.l2
  have l1 : f.slots.length = n1 := hhd.l1
  have hn2 : ((n2 : Int) == 0) = false := by simp; omega
  have HHD := hide hhd
  have HHDw := hide (H.out.hd.at_ i _ f hhi hfi)
  have HHI := hide hhi
  have HFI := hide hfi
  have HIF := hide (hI.out f (List.mem_of_getElem? hfi))
  have HL2 := hide l2
  have HL1 := hide l1
  have hn2a : 1 ≤ n2 := by omega
  have hn2b : n2 ≤ 1024 := by omega
  have hn1b : n1 ≤ 512 := by omega
  have hw2 : w1.heap.size ≤ w2.heap.size := hG2.size
  clear hC2 hG2 hz2 hfi hf hhd0 hhi hhd l1 l2 hfb HC1 HG1 HR1 HO1 HP1
  go_wp2_with fail
  obtain ⟨i0, ii, iz0, iz1, iz2⟩ := info_parts Tryd.info24
  obtain ⟨k0, ki, kz0, kz1, kz2⟩ := info_parts Tryd.info66
  have hXl : w1.heap.size ≤ w2.heap.size := hw2
  have hLX : L < w2.heap.size := by omega
  have hwX : w.heap.size + 1 < w2.heap.size := by omega
  have hsee1 : ∀ wr, w.grownBy wr (some g) → Sees wr w.heap.size A1 (pcells f.slots) := fun wr hGr => ((HHDw.out.s1).keepF HHDw.out.f1 fun p h1 h2 => World.cell?_of_block (hGr.block p.block h2 (fun e => by injection e with e; omega)))
  have hsee2 : ∀ wr, w.grownBy wr (some g) → Sees wr w.heap.size A2 (icells f.code) := fun wr hGr => ((HHDw.out.s2).keepF HHDw.out.f2 fun p h1 h2 => World.cell?_of_block (hGr.block p.block h2 (fun e => by injection e with e; omega)))
  have HS1 := hide hsee1
  have HS2 := hide hsee2
  clear hsee1 hsee2
  obtain ⟨X, hXe⟩ : ∃ X, w2.heap.size = X := ⟨_, rfl⟩
  have hI0 : OddR g n i L cL X A c hs P A1 n1 c1 A2 n2 c2 f.slots f.code w #[false, false, false, false, false, false, false, false, false, false] ⟨#[.pointer (some ⟨g, 0, none⟩), gv A n c, undef, .pointer (some ⟨w.heap.size, 0, none⟩), .pointer (some ⟨w.heap.size + 1, 0, none⟩), .slice (some ⟨L, 0, none⟩) n cL, .int .i64 (i : Int), .pointer (some ⟨X, 0, none⟩), undef, .pointer (some ⟨w.heap.size, 0, none⟩), .slice A n c, .slice (some ⟨L, 0, none⟩) n cL, .pointer (some ⟨g, 0, none⟩), .slice (some ⟨L, 0, none⟩) n cL, .int .i64 (n : Int), .int .i64 (i : Int), .slice (some ⟨L, 0, none⟩) n cL, .int .i64 (i : Int), .pointer (some ⟨L, i * 3, none⟩), fv P A1 n1 c1 A2 n2 c2, .pointer (some ⟨X, 2, none⟩), .slice A2 n2 c2, .int .i64 (n2 : Int), .bool false, undef, undef, undef, undef, undef, undef, undef, undef, undef, undef, undef, undef, undef, undef, undef, undef, undef, undef, undef, undef, undef, undef, undef, undef, undef, undef, undef, undef, undef, undef, undef, undef, undef, undef, undef, undef, undef, undef, undef, undef, undef, undef, undef, undef, undef, undef, undef, undef, undef, undef, undef, undef, undef, undef, undef, undef, undef, undef, undef, undef, undef, undef, undef, undef, undef, undef, undef, undef, undef, undef, undef, undef, undef, undef, undef, undef, undef, undef, undef, undef, undef, undef, undef, undef, undef, undef, undef, undef, undef, undef, undef, undef, undef, undef, undef, undef, undef, undef, undef, undef, undef, undef, undef, undef, undef, undef, undef, undef], []⟩ (w2.alloc (.cells #[.int .i64 P, .slice A1 n1 c1, .slice A2 n2 c2] 61)).drew := by
    refine ⟨false, false, false, false, false, false, false, false, false, false, undef, undef, undef, undef, undef, undef, undef, undef, .slice A1 n1 c1, .slice A2 n2 c2, rfl, rfl, (HC2.out.alloc _).drew, grown_draws (HG2.out.trans (World.grownBy_alloc _ _ _)) 1, own_mono (own_draws (HO2.out.alloc _) 1) (by omega), HR2.out.alloc _, hXe ▸ Row.new w2 _ _, (fun _ => rfl), (fun _ => rfl), (fun e => by cases e), (fun e => by cases e), (fun e => by cases e), (fun e => by cases e), (fun e => by cases e), (fun e => by cases e), (fun e => by cases e), (fun e => by cases e), (fun e => by cases e), (fun e => by cases e), (fun e => by cases e), (fun e => by cases e), (fun e => by cases e)⟩
  have HI0 := hide hI0
  clear hI0 y0 y1 y2 HO2 HC2 HG2 HR2
  rw [hXe] at hLX hwX ⊢
  have HXE := hide hXe
  clear hXe
  refine wp_region_inv (by kernel_rfl) (OddR g n i L cL X A c hs P A1 n1 c1 A2 n2 c2 f.slots f.code w) HI0.out ?_ ?_
  · rintro l a wr ⟨b0, b1, b2, b3, b4, b5, b6, b7, b8, b9, x25, x26, x27, x28, x29, x30, x31, x32, s1, s2, rfl, rfl, hC, hG, hO, hR, hX, e7, e9, t7, t9, t5, q0, q1, q2, q3, q4, q5, q6, q7, q8, q9⟩ k hi K hK
    have hlt := ready_lt hi
    obtain ⟨hf, o, ho, ha⟩ := ready_of hi
    clear hi
    have hlt' : k < 10 := hlt
    clear hlt
    have hXlt : X < wr.heap.size := hX.lt
    rcases (show k = 0 ∨ k = 1 ∨ k = 2 ∨ k = 3 ∨ k = 4 ∨ k = 5 ∨ k = 6 ∨ k = 7 ∨ k = 8 ∨ k = 9 by omega) with rfl | rfl | rfl | rfl | rfl | rfl | rfl | rfl | rfl | rfl
    · obtain rfl := Option.some.inj ho
      simp [Region.binds] at ha hf
      clear ha hf ho hlt'
      refine wpOp_plain rfl rfl ?_
      go_simp
      refine hK _ _ ⟨true, b1, b2, b3, b4, b5, b6, b7, b8, b9, _, _, _, _, _, _, _, _, s1, s2, rfl, rfl, hC, hG, hO, hR, hX, e7, e9, t7, t9, t5, (fun _ => rfl), q1, q2, q3, q4, q5, q6, q7, q8, q9⟩
    · obtain rfl := Option.some.inj ho
      simp [Region.binds] at ha hf
      have d0 : b0 = true := by simp_all
      have h7 : b7 = false := by cases e : b7 with | false => rfl | true => have := t7 e; simp_all
      have x := q0 d0
      subst x
      have x := e7 h7
      subst x
      have kc2 := hX.cell (k := 2) rfl
      clear ha hf ho hlt'
      refine wpOp_plain rfl rfl ?_
      go_simp
      refine hK _ _ ⟨b0, true, b2, b3, b4, b5, b6, b7, b8, b9, _, _, _, _, _, _, _, _, s1, _, rfl, rfl, hC, hG, hO, hR, hX, e7, e9, (fun e => ⟨rfl, (t7 e).2⟩), t9, t5, q0, (fun _ => rfl), q2, q3, q4, q5, q6, q7, q8, q9⟩
    · obtain rfl := Option.some.inj ho
      simp [Region.binds] at ha hf
      have d1 : b1 = true := by simp_all
      have h5 : b5 = false := by cases e : b5 with | false => rfl | true => have := t5 e; simp_all
      have h7 : b7 = false := by cases e : b7 with | false => rfl | true => have := t7 e; simp_all
      have x := q1 d1
      subst x
      clear ha ho hlt'
      refine wpOp_plain rfl rfl ?_
      refine wp_append_seesN (.const (.slice none 0 0)) (.tmp 26) 59 rfl wr.heap.size 24 i0 (.agg #[.int .i64 0, .int .i64 0, .int .i64 0, .int .i64 0, .int .u64 0]) 5 40 Tryd.underlying59 ii iz0 iz1 iz2 rfl (by decide) (.slice none 0 0) 0 [] rfl (World.ownsRow_nil _ _ _ _) w.heap.size A2 n2 c2 (icells f.code) rfl (hide HHDw.out.k2.1) (hide (by rw [icells_length, HL2.out])) (hide (HS2.out wr hG)) (hide HHDw.out.k2.2.1) (icells_oneCell _) (by unfold maxLen; omega) (by omega) (Nat.le_refl _) ?_
      intro v' w' ho1 hg1
      simp only [Nat.zero_add, List.nil_append] at ho1
      refine hK _ _ ⟨b0, b1, true, b3, b4, b5, b6, b7, b8, b9, _, _, _, _, _, _, _, _, s1, s2, rfl, rfl, hC.kept hg1 (fun k hk => by cases hk), hG.andThen hg1 (fun k hk => by cases hk), hO.kept hg1 (.inr (by simp [Value.ownBlock])), hR.grown hg1 (fun e => by cases e), hX.grown hg1 (fun e => by cases e), e7, e9, (fun e => ⟨(t7 e).1, rfl⟩), t9, (fun _ => rfl), q0, q1, (fun _ => own_mono ho1 (by omega)), q3, q4, (fun e => by rw [h5] at e; cases e), q6, (fun e => by rw [h7] at e; cases e), q8, q9⟩
    · obtain rfl := Option.some.inj ho
      simp [Region.binds] at ha hf
      clear ha hf ho hlt'
      refine wpOp_plain rfl rfl ?_
      go_simp
      refine hK _ _ ⟨b0, b1, b2, true, b4, b5, b6, b7, b8, b9, _, _, _, _, _, _, _, _, s1, s2, rfl, rfl, hC, hG, hO, hR, hX, e7, e9, t7, t9, t5, q0, q1, q2, (fun _ => rfl), q4, q5, q6, q7, q8, q9⟩
    · obtain rfl := Option.some.inj ho
      simp [Region.binds] at ha hf
      have d3 : b3 = true := by simp_all
      have h9 : b9 = false := by cases e : b9 with | false => rfl | true => have := t9 e; simp_all
      have x := q3 d3
      subst x
      have x := e9 h9
      subst x
      have c1' := hX.cell (k := 1) rfl
      clear ha hf ho hlt'
      refine wpOp_plain rfl rfl ?_
      go_simp
      refine hK _ _ ⟨b0, b1, b2, b3, true, b5, b6, b7, b8, b9, _, _, _, _, _, _, _, _, _, s2, rfl, rfl, hC, hG, hO, hR, hX, e7, e9, t7, (fun e => ⟨rfl, (t9 e).2⟩), t5, q0, q1, q2, q3, (fun _ => rfl), q5, q6, q7, q8, q9⟩
    · obtain rfl := Option.some.inj ho
      simp [Region.binds] at ha hf
      have d4 : b4 = true := by simp_all
      have d2 : b2 = true := by simp_all
      have h9 : b9 = false := by cases e : b9 with | false => rfl | true => have := t9 e; simp_all
      have x := q4 d4
      subst x
      have o2 := q2 d2
      clear ha ho hlt'
      refine wpOp_plain rfl rfl ?_
      refine wp_append_seesN (.const (.slice none 0 0)) (.tmp 29) 58 rfl wr.heap.size 66 k0 (.agg #[.int .i64 0, .int .i64 0]) 2 16 Tryd.underlying58 ki kz0 kz1 kz2 rfl (by decide) (.slice none 0 0) 0 [] rfl (World.ownsRow_nil _ _ _ _) w.heap.size A1 n1 c1 (pcells f.slots) rfl (hide HHDw.out.k1.1) (hide (by rw [pcells_length, HL1.out])) (hide (HS1.out wr hG)) (hide HHDw.out.k1.2.1) (pcells_oneCell _) (by unfold maxLen; omega) (by omega) (Nat.le_refl _) ?_
      intro v' w' ho1 hg1
      simp only [Nat.zero_add, List.nil_append] at ho1
      refine hK _ _ ⟨b0, b1, b2, b3, b4, true, b6, b7, b8, b9, _, _, _, _, _, _, _, _, s1, s2, rfl, rfl, hC.kept hg1 (fun k hk => by cases hk), hG.andThen hg1 (fun k hk => by cases hk), hO.kept hg1 (.inr (by simp [Value.ownBlock])), hR.grown hg1 (fun e => by cases e), hX.grown hg1 (fun e => by cases e), e7, e9, t7, (fun e => ⟨(t9 e).1, rfl⟩), (fun _ => d2), q0, q1, (fun e => (q2 e).kept hg1 (keep_none _)), q3, q4, (fun _ => ⟨own_mono ho1 (by omega), fun k hk e => by have := (ho1.lt k hk).1; have := (o2.lt k e).2; omega⟩), q6, q7, q8, (fun e => by rw [h9] at e; cases e)⟩
    · obtain rfl := Option.some.inj ho
      simp [Region.binds] at ha hf
      clear ha hf ho hlt'
      refine wpOp_plain rfl rfl ?_
      go_simp
      refine hK _ _ ⟨b0, b1, b2, b3, b4, b5, true, b7, b8, b9, _, _, _, _, _, _, _, _, s1, s2, rfl, rfl, hC, hG, hO, hR, hX, e7, e9, t7, t9, t5, q0, q1, q2, q3, q4, q5, (fun _ => rfl), q7, q8, q9⟩
    · obtain rfl := Option.some.inj ho
      simp [Region.binds] at ha hf
      have d6 : b6 = true := by simp_all
      have d2 : b2 = true := by simp_all
      have D1 := hide (show b1 = true by simp_all)
      have x := q6 d6
      subst x
      have o2 := q2 d2
      obtain ⟨A', c', rfl, -, -, -, -⟩ := own_seen o2
      have kc2 := hX.cell (k := 2) rfl
      have z2 := hX.free 2
      clear ha hf ho hlt'
      refine wpOp_plain rfl rfl ?_
      go_simp
      refine hK _ _ ⟨b0, b1, b2, b3, b4, b5, b6, true, b8, b9, _, _, _, _, _, _, _, _, s1, _, rfl, rfl, hC.kept (grown_cell wr X 2 _) (fun k hk => by injection hk with hk; omega), hG.andThen (grown_cell wr X 2 _) (fun k hk => .inl (by injection hk with hk; omega)), hO.kept (grown_cell wr X 2 _) (.inr (by simp [Value.ownBlock]; omega)), hR.far (p := ⟨X, 2, none⟩) (by simp; omega) _, hX.set_ 2 _, (fun e => by cases e), e9, (fun _ => ⟨D1.out, d2⟩), t9, t5, q0, q1, (fun e => (q2 e).kept (grown_cell wr X 2 _) (own_ne (q2 e))), q3, q4, (fun e => ⟨(q5 e).1.kept (grown_cell wr X 2 _) (own_ne (q5 e).1), (q5 e).2⟩), q6, (fun _ => rfl), q8, q9⟩
    · obtain rfl := Option.some.inj ho
      simp [Region.binds] at ha hf
      clear ha hf ho hlt'
      refine wpOp_plain rfl rfl ?_
      go_simp
      refine hK _ _ ⟨b0, b1, b2, b3, b4, b5, b6, b7, true, b9, _, _, _, _, _, _, _, _, s1, s2, rfl, rfl, hC, hG, hO, hR, hX, e7, e9, t7, t9, t5, q0, q1, q2, q3, q4, q5, q6, q7, (fun _ => rfl), q9⟩
    · obtain rfl := Option.some.inj ho
      simp [Region.binds] at ha hf
      have d8 : b8 = true := by simp_all
      have d5 : b5 = true := by simp_all
      have D4 := hide (show b4 = true by simp_all)
      have x := q8 d8
      subst x
      obtain ⟨o5, -⟩ := q5 d5
      obtain ⟨A', c', rfl, -, -, -, -⟩ := own_seen o5
      have c1' := hX.cell (k := 1) rfl
      have z1 := hX.free 1
      clear ha hf ho hlt'
      refine wpOp_plain rfl rfl ?_
      go_simp
      refine hK _ _ ⟨b0, b1, b2, b3, b4, b5, b6, b7, b8, true, _, _, _, _, _, _, _, _, _, s2, rfl, rfl, hC.kept (grown_cell wr X 1 _) (fun k hk => by injection hk with hk; omega), hG.andThen (grown_cell wr X 1 _) (fun k hk => .inl (by injection hk with hk; omega)), hO.kept (grown_cell wr X 1 _) (.inr (by simp [Value.ownBlock]; omega)), hR.far (p := ⟨X, 1, none⟩) (by simp; omega) _, hX.set_ 1 _, e7, (fun e => by cases e), t7, (fun _ => ⟨D4.out, d5⟩), t5, q0, q1, (fun e => (q2 e).kept (grown_cell wr X 1 _) (own_ne (q2 e))), q3, q4, (fun e => ⟨(q5 e).1.kept (grown_cell wr X 1 _) (own_ne (q5 e).1), (q5 e).2⟩), q6, q7, q8, (fun _ => rfl)⟩
  · rintro l a wr ⟨b0, b1, b2, b3, b4, b5, b6, b7, b8, b9, x25, x26, x27, x28, x29, x30, x31, x32, s1, s2, rfl, rfl, hC, hG, hO, hR, hX, e7, e9, t7, t9, t5, q0, q1, q2, q3, q4, q5, q6, q7, q8, q9⟩ hr
    have u0 : b0 = true := by
      cases hb : b0 with
      | true => rfl
      | false => exact (ready_no hr (i := 0) rfl hb (by simp [Region.binds])).elim
    have u3 : b3 = true := by
      cases hb : b3 with
      | true => rfl
      | false => exact (ready_no hr (i := 3) rfl hb (by simp [Region.binds])).elim
    have u1 : b1 = true := by
      cases hb : b1 with
      | true => rfl
      | false => exact (ready_no hr (i := 1) rfl hb (by simp [Region.binds, u0])).elim
    have u4 : b4 = true := by
      cases hb : b4 with
      | true => rfl
      | false => exact (ready_no hr (i := 4) rfl hb (by simp [Region.binds, u3])).elim
    have u2 : b2 = true := by
      cases hb : b2 with
      | true => rfl
      | false => exact (ready_no hr (i := 2) rfl hb (by simp [Region.binds, u1])).elim
    have u5 : b5 = true := by
      cases hb : b5 with
      | true => rfl
      | false => exact (ready_no hr (i := 5) rfl hb (by simp [Region.binds, u4, u2])).elim
    have u6 : b6 = true := by
      cases hb : b6 with
      | true => rfl
      | false => exact (ready_no hr (i := 6) rfl hb (by simp [Region.binds, u0, u1, u2, u3, u4])).elim
    have u7 : b7 = true := by
      cases hb : b7 with
      | true => rfl
      | false => exact (ready_no hr (i := 7) rfl hb (by simp [Region.binds, u6, u2, u5, u0, u1, u3, u4])).elim
    have u8 : b8 = true := by
      cases hb : b8 with
      | true => rfl
      | false => exact (ready_no hr (i := 8) rfl hb (by simp [Region.binds, u0, u1, u2, u3, u4, u5, u6, u7])).elim
    have u9 : b9 = true := by
      cases hb : b9 with
      | true => rfl
      | false => exact (ready_no hr (i := 9) rfl hb (by simp [Region.binds, u8, u5, u7, u0, u1, u2, u3, u4, u6])).elim
    have o2 := q2 u2
    obtain ⟨o5, hap⟩ := q5 u5
    obtain rfl := q7 u7
    obtain rfl := q9 u9
    obtain ⟨G, cG, hx27, hGb, hGl, hGc, _⟩ := own_block o2 (by omega)
    obtain ⟨As, cs, hx30, hAs, hcs, hfs, hss⟩ := own_seen o5
    subst hx27 hx30
    have HO5 := hide hO
    have HR5 := hide hR
    have HX5 := hide hX
    have HC5 := hide hC
    have HG5 := hide hG
    have HS5 := hide o5
    have HK5 := hide o2
    have HAP := hide hap
    have hXlt : X < wr.heap.size := hX.lt
    have hgX : g < X + 1 := by omega
    have y2 := hX.cell (k := 2) rfl
    clear hO hR hX hC hG o5 o2 hap hss q0 q1 q2 q3 q4 q5 q6 q7 q8 q9 e7 e9 t7 t9 t5 hr u0 u1 u2 u3 u4 u5 u6 u7 u8 u9
    go_wp2_with fail
    refine (cn (n2 : Int) _ HC5 (by omega) (by omega)).mono ?_
    rintro e w6 ⟨kq, rfl, kq0, kq1, hC6, hG6, hzz6⟩
    have HC6 := hide hC6
    have HG6 := hide (HG5.out.trans hG6)
    have HO6 := hide (own_stay HO5.out (by omega) hG6)
    have HR6 := hide (HR5.out.grown hG6 (fun e => by injection e with e; omega))
    have HX6 := hide (HX5.out.grown hG6 (fun e => by injection e with e; omega))
    have HS6 := hide (own_stay HS5.out hgX hG6)
    have HK6 := hide (own_stay HK5.out hgX hG6)
    clear hC6 hG6 hzz6 HC5 HG5 HO5 HR5 HX5 HS5 HK5
    obtain ⟨k, rfl⟩ := Int.eq_ofNat_of_zero_le kq0
    clear y2
    go_wp2_with fail
    refine (cn 9 _ HC6 (by omega) (by omega)).mono ?_
    rintro e w7 ⟨sw, rfl, sw0, sw1, hC7, hG7, hzz7⟩
    have HC7 := hide hC7
    have HG7 := hide (HG6.out.trans hG7)
    have HO7 := hide (own_stay HO6.out (by omega) hG7)
    have HR7 := hide (HR6.out.grown hG7 (fun e => by injection e with e; omega))
    have HX7 := hide (HX6.out.grown hG7 (fun e => by injection e with e; omega))
    have HS7 := hide (own_stay HS6.out hgX hG7)
    have HK7 := hide (own_stay HK6.out hgX hG7)
    clear hC7 hG7 hzz7 HC6 HG6 HO6 HR6 HX6 HS6 HK6
    have hkn : k < f.code.length := by have := HL2.out; omega
    have HXK := hide (List.getElem?_eq_getElem hkn)
    obtain ⟨x, hx⟩ : ∃ x, f.code[k] = x := ⟨_, rfl⟩
    rw [hx] at HXK
    clear hx
    have hkz : (0 : Int) ≤ (k : Int) := by omega
    have hkz' : (k : Int) < (n2 : Int) := by omega
    have hGX : X < G := by omega
    have hGw : G < w7.heap.size := (HK7.out.lt G rfl).2
    have y0 := HX7.out.cell (k := 0) rfl
    have y1 := HX7.out.cell (k := 1) rfl
    have y2 := HX7.out.cell (k := 2) rfl
    have HXD : Hid (Row w7.drew X 61 [.int .i64 P, .slice As n1 cs, .slice (some ⟨G, 0, none⟩) n2 cG]) := hide HX7.out.drew
    have HCD : Hid (Codes w7.drew g) := hide HC7.out.drew
    have HKD : Hid (w7.drew.ownsRow (X + 1) 24 5 (.slice (some ⟨G, 0, none⟩) n2 cG) n2 (icells f.code)) := hide (own_draws HK7.out 1)
    have HOD : Hid (w7.drew.ownsRow (w.heap.size + 2) 61 3 (.slice (some ⟨L, 0, none⟩) n cL) n (hcells hs)) := hide (own_draws HO7.out 1)
    have HSD : Hid (w7.drew.ownsRow (X + 1) 66 2 (.slice As n1 cs) n1 (pcells f.slots)) := hide (own_draws HS7.out 1)
    have HRD : Hid (Row w7.drew (w.heap.size + 1) 33 [.slice none 0 0]) := hide HR7.out.drew
    have HGD : Hid (w.grownBy w7.drew (some g)) := hide (grown_draws HG7.out 1)
    rcases (show sw = 0 ∨ sw = 1 ∨ sw = 2 ∨ sw = 3 ∨ sw = 4 ∨ sw = 5 ∨ sw = 6 ∨ sw = 7 ∨ sw = 8 by omega) with rfl | rfl | rfl | rfl | rfl | rfl | rfl | rfl | rfl
    · go_upto_region 10 with (fail)
      go_region_held3 (fun w' => w'.cell? ⟨X, 2, none⟩ = some (.slice (some ⟨G, 0, none⟩) n2 cG)) (first | go_keep | exact m2 | exact keep1 m2 (by omega))
        (first | (go_at_call 21; refine (cn 28 _ HCD (by omega) (by omega)).mono ?_; rintro e w8 ⟨u, rfl, uu0, uu1, hC8, hG8, _⟩; have m2 := (HXD.out.grown hG8 (fun e => by injection e with e; omega)).cell (k := 2) rfl; obtain ⟨⟨u0, u1, u2, u3, u4⟩, fz⟩ := ins_row (own_stay HKD.out hgX hG8) HXK.out; have zz := fz (k * 5); clear fz))
      have ho8 := (own_stay HKD.out hgX hG8)
      have hst := ho8.stored (k * 5) (.int .i64 (IntKind.i64.wrap (u - 1)))
      have hok := hst.1
      rw [iset0 HXK.out] at hok
      obtain ⟨wz, hwz⟩ : ∃ wz, w8.setCell ⟨G, k * 5, none⟩ (.int .i64 (IntKind.i64.wrap (u - 1))) = wz := ⟨_, rfl⟩
      have hoz := (own_stay HOD.out (by omega) hG8).kept hst.2 (.inr (by simp [Value.ownBlock]; omega))
      have hRz := (HRD.out.grown hG8 (fun e => by injection e with e; omega)).far (p := ⟨G, k * 5, none⟩) (by simp; omega) (.int .i64 (IntKind.i64.wrap (u - 1)))
      have hXz := (HXD.out.grown hG8 (fun e => by injection e with e; omega)).far (p := ⟨G, k * 5, none⟩) (by simp; omega) (.int .i64 (IntKind.i64.wrap (u - 1)))
      have hsz := (own_stay HSD.out hgX hG8).kept hst.2 (.inr (fun e => HAP.out _ e rfl))
      have hCz := hC8.kept hst.2 (fun k hk => by injection hk with hk; omega)
      have hGz := (HGD.out.trans hG8).andThen hst.2 (fun k hk => .inl (by injection hk with hk; omega))
      rw [hwz] at hok hoz hRz hXz hsz hCz hGz ⊢
      have hdz : HdAt wz (X + 1) wz.heap.size ⟨P, As, n1, cs, some ⟨G, 0, none⟩, n2, cG⟩ ⟨P, f.slots, f.code.set k ⟨IntKind.i64.wrap (u - 1), x.a, x.b, x.c, x.imm⟩⟩ := ⟨rfl, HL1.out, by simp [HL2.out], ⟨hAs, hcs, by simp only; omega⟩, ⟨(fun e => by cases e), hGc, by simp only; omega⟩, hfs, (fun a ha => by injection ha with ha; subst ha; exact hGb), Sees.ownN hsz, Sees.ownN hok⟩
      clear hwz hok hst ho8 hsz y0 y1 y2 u0 u1 u2 u3 u4 zz m2
      obtain ⟨⟨l0, l1, l2⟩, fl⟩ := hd_row hoz HHI.out
      have f0 := fl (i * 3)
      have f1 := fl (i * 3 + 1)
      have f2 := fl (i * 3 + 2)
      simp only at l0 l1 l2
      have p0 := hXz.cell (k := 0) rfl
      have p1 := hXz.cell (k := 1) rfl
      have p2 := hXz.cell (k := 2) rfl
      have r0 := hRz.cell (k := 0) rfl
      have rz := hRz.free 0
      obtain ⟨wf, hwf⟩ : ∃ wf, (((wz.setCell ⟨L, i * 3, none⟩ (.int .i64 P)).setCell ⟨L, i * 3 + 1, none⟩ (.slice As n1 cs)).setCell ⟨L, i * 3 + 2, none⟩ (.slice (some ⟨G, 0, none⟩) n2 cG)).setCell ⟨w.heap.size + 1, 0, none⟩ (.slice (some ⟨L, 0, none⟩) n cL) = wf := ⟨_, rfl⟩
      have hfin := odd_end hwf H.out hg hlo hoz (by omega : L < X) (by omega : w.heap.size + 1 < X) HHI.out hdz hRz hCz hGz hn80 hI.out (by first | exact HIF.out | exact imm_set HIF.out (HIF.out x (List.mem_of_getElem? HXK.out)) | exact imm_set HIF.out hu8 | exact fun y hy => HIF.out y (List.mem_of_mem_take hy))
      obtain ⟨hfin, hcell⟩ := hfin
      have HFIN := hide hfin
      have HWF := hide hwf
      clear hfin hwf hoz hRz hXz hdz hCz hGz fl
      go_wp2_with fail
      rw [HWF.out]
      exact bodyPost_ret (v := gv (some ⟨L, 0, none⟩) n cL) (by simp [results, Tryd.results10, go_sem, hcell]) rfl HFIN.out
    · go_upto_region 12 with (fail)
      go_region_held3 (fun w' => w'.cell? ⟨X, 2, none⟩ = some (.slice (some ⟨G, 0, none⟩) n2 cG)) (first | go_keep | exact m2 | exact keep1 m2 (by omega))
        (first | (go_at_call 23; refine (int_any g _ HCD).mono ?_; rintro e w8 ⟨u, rfl, hC8, hG8⟩; have m2 := (HXD.out.grown hG8 (fun e => by injection e with e; omega)).cell (k := 2) rfl; obtain ⟨⟨u0, u1, u2, u3, u4⟩, fz⟩ := ins_row (own_stay HKD.out hgX hG8) HXK.out; have zz := fz (k * 5 + 1); clear fz))
      have ho8 := (own_stay HKD.out hgX hG8)
      have hst := ho8.stored (k * 5 + 1) (.int .i64 u)
      have hok := hst.1
      rw [iset1 HXK.out] at hok
      obtain ⟨wz, hwz⟩ : ∃ wz, w8.setCell ⟨G, k * 5 + 1, none⟩ (.int .i64 u) = wz := ⟨_, rfl⟩
      have hoz := (own_stay HOD.out (by omega) hG8).kept hst.2 (.inr (by simp [Value.ownBlock]; omega))
      have hRz := (HRD.out.grown hG8 (fun e => by injection e with e; omega)).far (p := ⟨G, k * 5 + 1, none⟩) (by simp; omega) (.int .i64 u)
      have hXz := (HXD.out.grown hG8 (fun e => by injection e with e; omega)).far (p := ⟨G, k * 5 + 1, none⟩) (by simp; omega) (.int .i64 u)
      have hsz := (own_stay HSD.out hgX hG8).kept hst.2 (.inr (fun e => HAP.out _ e rfl))
      have hCz := hC8.kept hst.2 (fun k hk => by injection hk with hk; omega)
      have hGz := (HGD.out.trans hG8).andThen hst.2 (fun k hk => .inl (by injection hk with hk; omega))
      rw [hwz] at hok hoz hRz hXz hsz hCz hGz ⊢
      have hdz : HdAt wz (X + 1) wz.heap.size ⟨P, As, n1, cs, some ⟨G, 0, none⟩, n2, cG⟩ ⟨P, f.slots, f.code.set k ⟨x.op, u, x.b, x.c, x.imm⟩⟩ := ⟨rfl, HL1.out, by simp [HL2.out], ⟨hAs, hcs, by simp only; omega⟩, ⟨(fun e => by cases e), hGc, by simp only; omega⟩, hfs, (fun a ha => by injection ha with ha; subst ha; exact hGb), Sees.ownN hsz, Sees.ownN hok⟩
      clear hwz hok hst ho8 hsz y0 y1 y2 u0 u1 u2 u3 u4 zz m2
      obtain ⟨⟨l0, l1, l2⟩, fl⟩ := hd_row hoz HHI.out
      have f0 := fl (i * 3)
      have f1 := fl (i * 3 + 1)
      have f2 := fl (i * 3 + 2)
      simp only at l0 l1 l2
      have p0 := hXz.cell (k := 0) rfl
      have p1 := hXz.cell (k := 1) rfl
      have p2 := hXz.cell (k := 2) rfl
      have r0 := hRz.cell (k := 0) rfl
      have rz := hRz.free 0
      obtain ⟨wf, hwf⟩ : ∃ wf, (((wz.setCell ⟨L, i * 3, none⟩ (.int .i64 P)).setCell ⟨L, i * 3 + 1, none⟩ (.slice As n1 cs)).setCell ⟨L, i * 3 + 2, none⟩ (.slice (some ⟨G, 0, none⟩) n2 cG)).setCell ⟨w.heap.size + 1, 0, none⟩ (.slice (some ⟨L, 0, none⟩) n cL) = wf := ⟨_, rfl⟩
      have hfin := odd_end hwf H.out hg hlo hoz (by omega : L < X) (by omega : w.heap.size + 1 < X) HHI.out hdz hRz hCz hGz hn80 hI.out (by first | exact HIF.out | exact imm_set HIF.out (HIF.out x (List.mem_of_getElem? HXK.out)) | exact imm_set HIF.out hu8 | exact fun y hy => HIF.out y (List.mem_of_mem_take hy))
      obtain ⟨hfin, hcell⟩ := hfin
      have HFIN := hide hfin
      have HWF := hide hwf
      clear hfin hwf hoz hRz hXz hdz hCz hGz fl
      go_wp2_with fail
      rw [HWF.out]
      exact bodyPost_ret (v := gv (some ⟨L, 0, none⟩) n cL) (by simp [results, Tryd.results10, go_sem, hcell]) rfl HFIN.out
    · go_upto_region 14 with (fail)
      go_region_held3 (fun w' => w'.cell? ⟨X, 2, none⟩ = some (.slice (some ⟨G, 0, none⟩) n2 cG)) (first | go_keep | exact m2 | exact keep1 m2 (by omega))
        (first | (go_at_call 23; refine (int_any g _ HCD).mono ?_; rintro e w8 ⟨u, rfl, hC8, hG8⟩; have m2 := (HXD.out.grown hG8 (fun e => by injection e with e; omega)).cell (k := 2) rfl; obtain ⟨⟨u0, u1, u2, u3, u4⟩, fz⟩ := ins_row (own_stay HKD.out hgX hG8) HXK.out; have zz := fz (k * 5 + 2); clear fz))
      have ho8 := (own_stay HKD.out hgX hG8)
      have hst := ho8.stored (k * 5 + 2) (.int .i64 u)
      have hok := hst.1
      rw [iset2 HXK.out] at hok
      obtain ⟨wz, hwz⟩ : ∃ wz, w8.setCell ⟨G, k * 5 + 2, none⟩ (.int .i64 u) = wz := ⟨_, rfl⟩
      have hoz := (own_stay HOD.out (by omega) hG8).kept hst.2 (.inr (by simp [Value.ownBlock]; omega))
      have hRz := (HRD.out.grown hG8 (fun e => by injection e with e; omega)).far (p := ⟨G, k * 5 + 2, none⟩) (by simp; omega) (.int .i64 u)
      have hXz := (HXD.out.grown hG8 (fun e => by injection e with e; omega)).far (p := ⟨G, k * 5 + 2, none⟩) (by simp; omega) (.int .i64 u)
      have hsz := (own_stay HSD.out hgX hG8).kept hst.2 (.inr (fun e => HAP.out _ e rfl))
      have hCz := hC8.kept hst.2 (fun k hk => by injection hk with hk; omega)
      have hGz := (HGD.out.trans hG8).andThen hst.2 (fun k hk => .inl (by injection hk with hk; omega))
      rw [hwz] at hok hoz hRz hXz hsz hCz hGz ⊢
      have hdz : HdAt wz (X + 1) wz.heap.size ⟨P, As, n1, cs, some ⟨G, 0, none⟩, n2, cG⟩ ⟨P, f.slots, f.code.set k ⟨x.op, x.a, u, x.c, x.imm⟩⟩ := ⟨rfl, HL1.out, by simp [HL2.out], ⟨hAs, hcs, by simp only; omega⟩, ⟨(fun e => by cases e), hGc, by simp only; omega⟩, hfs, (fun a ha => by injection ha with ha; subst ha; exact hGb), Sees.ownN hsz, Sees.ownN hok⟩
      clear hwz hok hst ho8 hsz y0 y1 y2 u0 u1 u2 u3 u4 zz m2
      obtain ⟨⟨l0, l1, l2⟩, fl⟩ := hd_row hoz HHI.out
      have f0 := fl (i * 3)
      have f1 := fl (i * 3 + 1)
      have f2 := fl (i * 3 + 2)
      simp only at l0 l1 l2
      have p0 := hXz.cell (k := 0) rfl
      have p1 := hXz.cell (k := 1) rfl
      have p2 := hXz.cell (k := 2) rfl
      have r0 := hRz.cell (k := 0) rfl
      have rz := hRz.free 0
      obtain ⟨wf, hwf⟩ : ∃ wf, (((wz.setCell ⟨L, i * 3, none⟩ (.int .i64 P)).setCell ⟨L, i * 3 + 1, none⟩ (.slice As n1 cs)).setCell ⟨L, i * 3 + 2, none⟩ (.slice (some ⟨G, 0, none⟩) n2 cG)).setCell ⟨w.heap.size + 1, 0, none⟩ (.slice (some ⟨L, 0, none⟩) n cL) = wf := ⟨_, rfl⟩
      have hfin := odd_end hwf H.out hg hlo hoz (by omega : L < X) (by omega : w.heap.size + 1 < X) HHI.out hdz hRz hCz hGz hn80 hI.out (by first | exact HIF.out | exact imm_set HIF.out (HIF.out x (List.mem_of_getElem? HXK.out)) | exact imm_set HIF.out hu8 | exact fun y hy => HIF.out y (List.mem_of_mem_take hy))
      obtain ⟨hfin, hcell⟩ := hfin
      have HFIN := hide hfin
      have HWF := hide hwf
      clear hfin hwf hoz hRz hXz hdz hCz hGz fl
      go_wp2_with fail
      rw [HWF.out]
      exact bodyPost_ret (v := gv (some ⟨L, 0, none⟩) n cL) (by simp [results, Tryd.results10, go_sem, hcell]) rfl HFIN.out
    · go_upto_region 16 with (fail)
      go_region_held3 (fun w' => w'.cell? ⟨X, 2, none⟩ = some (.slice (some ⟨G, 0, none⟩) n2 cG)) (first | go_keep | exact m2 | exact keep1 m2 (by omega))
        (first | (go_at_call 23; refine (int_any g _ HCD).mono ?_; rintro e w8 ⟨u, rfl, hC8, hG8⟩; have m2 := (HXD.out.grown hG8 (fun e => by injection e with e; omega)).cell (k := 2) rfl; obtain ⟨⟨u0, u1, u2, u3, u4⟩, fz⟩ := ins_row (own_stay HKD.out hgX hG8) HXK.out; have zz := fz (k * 5 + 3); clear fz))
      have ho8 := (own_stay HKD.out hgX hG8)
      have hst := ho8.stored (k * 5 + 3) (.int .i64 u)
      have hok := hst.1
      rw [iset3 HXK.out] at hok
      obtain ⟨wz, hwz⟩ : ∃ wz, w8.setCell ⟨G, k * 5 + 3, none⟩ (.int .i64 u) = wz := ⟨_, rfl⟩
      have hoz := (own_stay HOD.out (by omega) hG8).kept hst.2 (.inr (by simp [Value.ownBlock]; omega))
      have hRz := (HRD.out.grown hG8 (fun e => by injection e with e; omega)).far (p := ⟨G, k * 5 + 3, none⟩) (by simp; omega) (.int .i64 u)
      have hXz := (HXD.out.grown hG8 (fun e => by injection e with e; omega)).far (p := ⟨G, k * 5 + 3, none⟩) (by simp; omega) (.int .i64 u)
      have hsz := (own_stay HSD.out hgX hG8).kept hst.2 (.inr (fun e => HAP.out _ e rfl))
      have hCz := hC8.kept hst.2 (fun k hk => by injection hk with hk; omega)
      have hGz := (HGD.out.trans hG8).andThen hst.2 (fun k hk => .inl (by injection hk with hk; omega))
      rw [hwz] at hok hoz hRz hXz hsz hCz hGz ⊢
      have hdz : HdAt wz (X + 1) wz.heap.size ⟨P, As, n1, cs, some ⟨G, 0, none⟩, n2, cG⟩ ⟨P, f.slots, f.code.set k ⟨x.op, x.a, x.b, u, x.imm⟩⟩ := ⟨rfl, HL1.out, by simp [HL2.out], ⟨hAs, hcs, by simp only; omega⟩, ⟨(fun e => by cases e), hGc, by simp only; omega⟩, hfs, (fun a ha => by injection ha with ha; subst ha; exact hGb), Sees.ownN hsz, Sees.ownN hok⟩
      clear hwz hok hst ho8 hsz y0 y1 y2 u0 u1 u2 u3 u4 zz m2
      obtain ⟨⟨l0, l1, l2⟩, fl⟩ := hd_row hoz HHI.out
      have f0 := fl (i * 3)
      have f1 := fl (i * 3 + 1)
      have f2 := fl (i * 3 + 2)
      simp only at l0 l1 l2
      have p0 := hXz.cell (k := 0) rfl
      have p1 := hXz.cell (k := 1) rfl
      have p2 := hXz.cell (k := 2) rfl
      have r0 := hRz.cell (k := 0) rfl
      have rz := hRz.free 0
      obtain ⟨wf, hwf⟩ : ∃ wf, (((wz.setCell ⟨L, i * 3, none⟩ (.int .i64 P)).setCell ⟨L, i * 3 + 1, none⟩ (.slice As n1 cs)).setCell ⟨L, i * 3 + 2, none⟩ (.slice (some ⟨G, 0, none⟩) n2 cG)).setCell ⟨w.heap.size + 1, 0, none⟩ (.slice (some ⟨L, 0, none⟩) n cL) = wf := ⟨_, rfl⟩
      have hfin := odd_end hwf H.out hg hlo hoz (by omega : L < X) (by omega : w.heap.size + 1 < X) HHI.out hdz hRz hCz hGz hn80 hI.out (by first | exact HIF.out | exact imm_set HIF.out (HIF.out x (List.mem_of_getElem? HXK.out)) | exact imm_set HIF.out hu8 | exact fun y hy => HIF.out y (List.mem_of_mem_take hy))
      obtain ⟨hfin, hcell⟩ := hfin
      have HFIN := hide hfin
      have HWF := hide hwf
      clear hfin hwf hoz hRz hXz hdz hCz hGz fl
      go_wp2_with fail
      rw [HWF.out]
      exact bodyPost_ret (v := gv (some ⟨L, 0, none⟩) n cL) (by simp [results, Tryd.results10, go_sem, hcell]) rfl HFIN.out
    · go_upto_region 18 with (fail)
      go_region_held3 (fun w' => w'.cell? ⟨X, 2, none⟩ = some (.slice (some ⟨G, 0, none⟩) n2 cG)) (first | go_keep | exact m2 | exact keep1 m2 (by omega))
        (first | (go_at_call 24; refine (cword_any g _ HCD).mono ?_; rintro e w8 ⟨u, rfl, hu8, hC8, hG8, _⟩; have m2 := (HXD.out.grown hG8 (fun e => by injection e with e; omega)).cell (k := 2) rfl; obtain ⟨⟨u0, u1, u2, u3, u4⟩, fz⟩ := ins_row (own_stay HKD.out hgX hG8) HXK.out; have zz := fz (k * 5 + 4); clear fz))
      have ho8 := (own_stay HKD.out hgX hG8)
      have hst := ho8.stored (k * 5 + 4) (.int .u64 u)
      have hok := hst.1
      rw [iset4 HXK.out] at hok
      obtain ⟨wz, hwz⟩ : ∃ wz, w8.setCell ⟨G, k * 5 + 4, none⟩ (.int .u64 u) = wz := ⟨_, rfl⟩
      have hoz := (own_stay HOD.out (by omega) hG8).kept hst.2 (.inr (by simp [Value.ownBlock]; omega))
      have hRz := (HRD.out.grown hG8 (fun e => by injection e with e; omega)).far (p := ⟨G, k * 5 + 4, none⟩) (by simp; omega) (.int .u64 u)
      have hXz := (HXD.out.grown hG8 (fun e => by injection e with e; omega)).far (p := ⟨G, k * 5 + 4, none⟩) (by simp; omega) (.int .u64 u)
      have hsz := (own_stay HSD.out hgX hG8).kept hst.2 (.inr (fun e => HAP.out _ e rfl))
      have hCz := hC8.kept hst.2 (fun k hk => by injection hk with hk; omega)
      have hGz := (HGD.out.trans hG8).andThen hst.2 (fun k hk => .inl (by injection hk with hk; omega))
      rw [hwz] at hok hoz hRz hXz hsz hCz hGz ⊢
      have hdz : HdAt wz (X + 1) wz.heap.size ⟨P, As, n1, cs, some ⟨G, 0, none⟩, n2, cG⟩ ⟨P, f.slots, f.code.set k ⟨x.op, x.a, x.b, x.c, u⟩⟩ := ⟨rfl, HL1.out, by simp [HL2.out], ⟨hAs, hcs, by simp only; omega⟩, ⟨(fun e => by cases e), hGc, by simp only; omega⟩, hfs, (fun a ha => by injection ha with ha; subst ha; exact hGb), Sees.ownN hsz, Sees.ownN hok⟩
      clear hwz hok hst ho8 hsz y0 y1 y2 u0 u1 u2 u3 u4 zz m2
      obtain ⟨⟨l0, l1, l2⟩, fl⟩ := hd_row hoz HHI.out
      have f0 := fl (i * 3)
      have f1 := fl (i * 3 + 1)
      have f2 := fl (i * 3 + 2)
      simp only at l0 l1 l2
      have p0 := hXz.cell (k := 0) rfl
      have p1 := hXz.cell (k := 1) rfl
      have p2 := hXz.cell (k := 2) rfl
      have r0 := hRz.cell (k := 0) rfl
      have rz := hRz.free 0
      obtain ⟨wf, hwf⟩ : ∃ wf, (((wz.setCell ⟨L, i * 3, none⟩ (.int .i64 P)).setCell ⟨L, i * 3 + 1, none⟩ (.slice As n1 cs)).setCell ⟨L, i * 3 + 2, none⟩ (.slice (some ⟨G, 0, none⟩) n2 cG)).setCell ⟨w.heap.size + 1, 0, none⟩ (.slice (some ⟨L, 0, none⟩) n cL) = wf := ⟨_, rfl⟩
      have hfin := odd_end hwf H.out hg hlo hoz (by omega : L < X) (by omega : w.heap.size + 1 < X) HHI.out hdz hRz hCz hGz hn80 hI.out (by first | exact HIF.out | exact imm_set HIF.out (HIF.out x (List.mem_of_getElem? HXK.out)) | exact imm_set HIF.out hu8 | exact fun y hy => HIF.out y (List.mem_of_mem_take hy))
      obtain ⟨hfin, hcell⟩ := hfin
      have HFIN := hide hfin
      have HWF := hide hwf
      clear hfin hwf hoz hRz hXz hdz hCz hGz fl
      go_wp2_with fail
      rw [HWF.out]
      exact bodyPost_ret (v := gv (some ⟨L, 0, none⟩) n cL) (by simp [results, Tryd.results10, go_sem, hcell]) rfl HFIN.out
    · go_wp2_with fail
      refine (int_any g _ HC7).mono ?_
      rintro e w8 ⟨u, rfl, hC8, hG8⟩
      have hX8 := HX7.out.grown hG8 (fun e => by injection e with e; omega)
      have m0 := hX8.cell (k := 0) rfl
      have z0 := hX8.free 0
      clear y0 y1 y2
      go_upto_region 28 with (fail)
      obtain ⟨wz, hwz⟩ : ∃ wz, w8.setCell ⟨X, 0, none⟩ (.int .i64 u) = wz := ⟨_, rfl⟩
      have hst := grown_cell w8 X 0 (.int .i64 u)
      have hoz := (own_stay HO7.out (by omega) hG8).kept hst (.inr (by simp [Value.ownBlock]; omega))
      have hRz := (HR7.out.grown hG8 (fun e => by injection e with e; omega)).far (p := ⟨X, 0, none⟩) (by simp; omega) (.int .i64 u)
      have hXz := hX8.set_ 0 (.int .i64 u)
      have hsz := (own_stay HS7.out hgX hG8).kept hst (own_ne HS7.out)
      have hok := (own_stay HK7.out hgX hG8).kept hst (own_ne HK7.out)
      have hCz := hC8.kept hst (fun k hk => by injection hk with hk; omega)
      have hGz := (HG7.out.trans hG8).andThen hst (fun k hk => .inl (by injection hk with hk; omega))
      rw [hwz] at hok hoz hRz hXz hsz hCz hGz ⊢
      have hdz : HdAt wz (X + 1) wz.heap.size ⟨u, As, n1, cs, some ⟨G, 0, none⟩, n2, cG⟩ ⟨u, f.slots, f.code⟩ := ⟨rfl, HL1.out, HL2.out, ⟨hAs, hcs, by simp only; omega⟩, ⟨(fun e => by cases e), hGc, by simp only; omega⟩, hfs, (fun a ha => by injection ha with ha; subst ha; exact hGb), Sees.ownN hsz, Sees.ownN hok⟩
      clear hwz hok hst hsz hX8 m0 z0
      obtain ⟨⟨l0, l1, l2⟩, fl⟩ := hd_row hoz HHI.out
      have f0 := fl (i * 3)
      have f1 := fl (i * 3 + 1)
      have f2 := fl (i * 3 + 2)
      simp only at l0 l1 l2
      have p0 := hXz.cell (k := 0) rfl
      have p1 := hXz.cell (k := 1) rfl
      have p2 := hXz.cell (k := 2) rfl
      have r0 := hRz.cell (k := 0) rfl
      have rz := hRz.free 0
      obtain ⟨wf, hwf⟩ : ∃ wf, (((wz.setCell ⟨L, i * 3, none⟩ (.int .i64 u)).setCell ⟨L, i * 3 + 1, none⟩ (.slice As n1 cs)).setCell ⟨L, i * 3 + 2, none⟩ (.slice (some ⟨G, 0, none⟩) n2 cG)).setCell ⟨w.heap.size + 1, 0, none⟩ (.slice (some ⟨L, 0, none⟩) n cL) = wf := ⟨_, rfl⟩
      have hfin := odd_end hwf H.out hg hlo hoz (by omega : L < X) (by omega : w.heap.size + 1 < X) HHI.out hdz hRz hCz hGz hn80 hI.out (by first | exact HIF.out | exact imm_set HIF.out (HIF.out x (List.mem_of_getElem? HXK.out)) | exact imm_set HIF.out hu8 | exact fun y hy => HIF.out y (List.mem_of_mem_take hy))
      obtain ⟨hfin, hcell⟩ := hfin
      have HFIN := hide hfin
      have HWF := hide hwf
      clear hfin hwf hoz hRz hXz hdz hCz hGz fl
      go_wp2_with fail
      rw [HWF.out]
      exact bodyPost_ret (v := gv (some ⟨L, 0, none⟩) n cL) (by simp [results, Tryd.results10, go_sem, hcell]) rfl HFIN.out
    · have hnX : Value.ownBlock (.slice As n1 cs) ≠ some X := by rcases own_ne HS7.out with e | e; (rw [e]; simp); exact e
      have m2 := HXD.out.cell (k := 1) rfl
      clear y0 y1 y2
      go_upto_region 22 with (fail)
      go_region_law
        (first
          | (go_simp; go_at_call 23; refine (int_any g _ HCD).mono ?_; rintro e w8 ⟨u, rfl, hC8, hG8⟩; have HC8 := hide hC8; have HG8 := hide (HGD.out.trans hG8); have HX8 := hide (HXD.out.grown hG8 (fun e => by injection e with e; omega)); have HR8 := hide (HRD.out.grown hG8 (fun e => by injection e with e; omega)); have HO8 := hide (own_stay HOD.out (by omega) hG8); have HS8 := hide (own_stay HSD.out hgX hG8); have HK8 := hide (own_stay HKD.out hgX hG8); have m3 := HX8.out.cell (k := 1) rfl; clear hC8 hG8; dsimp only)
          | (go_simp; go_at_call 23; refine (int_any g _ HC8).mono ?_; rintro e w9 ⟨v, rfl, hC9, hG9⟩; have HC9 := hide hC9; have HG9 := hide (HG8.out.trans hG9); have HX9 := hide (HX8.out.grown hG9 (fun e => by injection e with e; omega)); have HR9 := hide (HR8.out.grown hG9 (fun e => by injection e with e; omega)); have HO9 := hide (own_stay HO8.out (by omega) hG9); have HS9 := hide (own_stay HS8.out hgX hG9); have HK9 := hide (own_stay HK8.out hgX hG9); have HL9 := hide (show X + 1 ≤ w9.heap.size by have := HX9.out.lt; omega); have m4 := HX9.out.cell (k := 1) rfl; have m5 := (HX9.out.alloc (.cells #[.int .i64 u, .int .i64 v] 66)).cell (k := 1) rfl; clear hC9 hG9; dsimp only)
          | (refine wp_append_own _ (.tmp 94) (.tmp 100) 58 rfl (X + 1) 66 k0 (.agg #[.int .i64 0, .int .i64 0]) 2 16 Tryd.underlying58 ki kz0 kz1 kz2 rfl (by decide) (.slice As n1 cs) n1 (pcells f.slots) rfl (HS9.out.alloc _) ⟨w9.heap.size, 0, none⟩ 1 1 [.int .i64 u, .int .i64 v] rfl rfl (two_new _ _ _ _) (two_cells _ _) (by unfold maxLen; omega) (by omega) (by have := HL9.out; simp; omega) ?_; intro v' wa ha3 hga _; obtain ⟨A9, c9, rfl, hA9, hc9, hf9, -⟩ := own_seen ha3; have HXA := hide ((HX9.out.alloc (.cells #[.int .i64 u, .int .i64 v] 66)).grown hga (fun e => hnX e.symm)); have z0 := HXA.out.cell (k := 1) rfl; have z1 := HXA.out.free 1))
      all_goals
        have ho2 := (HS9.out.alloc (.cells #[.int .i64 u, .int .i64 v] 66))
        have HWA : Hid (w.grownBy wa (some g)) := hide ((HG9.out.trans (World.grownBy_alloc _ _ _)).andThen hga (fun k hk => .inl (by have := (HS9.out.lt k hk).1; omega)))
        obtain ⟨wz, hwz⟩ : ∃ wz, wa.setCell ⟨X, 1, none⟩ (.slice A9 (n1 + 1) c9) = wz := ⟨_, rfl⟩
        have hst := grown_cell wa X 1 (.slice A9 (n1 + 1) c9)
        have hoz := ((HO9.out.alloc (.cells #[.int .i64 u, .int .i64 v] 66)).kept hga (.inr (fun e => by have := (HS9.out.lt L e.symm).1; omega))).kept hst (.inr (by simp [Value.ownBlock]; omega))
        have hRz := ((HR9.out.alloc (.cells #[.int .i64 u, .int .i64 v] 66)).grown hga (fun e => by have := (HS9.out.lt _ e.symm).1; omega)).far (p := ⟨X, 1, none⟩) (by simp; omega) (.slice A9 (n1 + 1) c9)
        have hXz := HXA.out.set_ 1 (.slice A9 (n1 + 1) c9)
        have hsz := ha3.kept hst (own_ne ha3)
        have hok := ((HK9.out.alloc (.cells #[.int .i64 u, .int .i64 v] 66)).kept hga (.inr (fun e => HAP.out _ e.symm rfl))).kept hst (own_ne HKD.out)
        have hCz := ((HC9.out.alloc (.cells #[.int .i64 u, .int .i64 v] 66)).kept hga (fun k hk => by have := (HS9.out.lt k hk).1; omega)).kept hst (fun k hk => by injection hk with hk; omega)
        have hGz := HWA.out.andThen hst (fun k hk => .inl (by injection hk with hk; omega))
        rw [hwz] at hok hoz hRz hXz hsz hCz hGz ⊢
        have hpc : pcells f.slots ++ [.int .i64 u, .int .i64 v] = pcells (f.slots ++ [(u, v)]) := by rw [pcells_append, pcells_one]
        rw [hpc] at hsz
        have hdz : HdAt wz (X + 1) wz.heap.size ⟨P, A9, n1 + 1, c9, some ⟨G, 0, none⟩, n2, cG⟩ ⟨P, f.slots ++ [(u, v)], f.code⟩ := ⟨rfl, by simp [HL1.out], HL2.out, ⟨hA9, hc9, by simp only; omega⟩, ⟨(fun e => by cases e), hGc, by simp only; omega⟩, hf9, (fun a ha => by injection ha with ha; subst ha; exact hGb), Sees.ownN hsz, Sees.ownN hok⟩
        clear hwz hok hst hsz ho2 ha3 hga z0 z1
        obtain ⟨⟨l0, l1, l2⟩, fl⟩ := hd_row hoz HHI.out
        have f0 := fl (i * 3)
        have f1 := fl (i * 3 + 1)
        have f2 := fl (i * 3 + 2)
        simp only at l0 l1 l2
        have p0 := hXz.cell (k := 0) rfl
        have p1 := hXz.cell (k := 1) rfl
        have p2 := hXz.cell (k := 2) rfl
        have r0 := hRz.cell (k := 0) rfl
        have rz := hRz.free 0
        obtain ⟨wf, hwf⟩ : ∃ wf, (((wz.setCell ⟨L, i * 3, none⟩ (.int .i64 P)).setCell ⟨L, i * 3 + 1, none⟩ (.slice A9 (n1 + 1) c9)).setCell ⟨L, i * 3 + 2, none⟩ (.slice (some ⟨G, 0, none⟩) n2 cG)).setCell ⟨w.heap.size + 1, 0, none⟩ (.slice (some ⟨L, 0, none⟩) n cL) = wf := ⟨_, rfl⟩
        have hfin := odd_end hwf H.out hg hlo hoz (by omega : L < X) (by omega : w.heap.size + 1 < X) HHI.out hdz hRz hCz hGz hn80 hI.out (by first | exact HIF.out | exact imm_set HIF.out (HIF.out x (List.mem_of_getElem? HXK.out)) | exact imm_set HIF.out hu8 | exact fun y hy => HIF.out y (List.mem_of_mem_take hy))
        obtain ⟨hfin, hcell⟩ := hfin
        have HFIN := hide hfin
        have HWF := hide hwf
        clear hfin hwf hoz hRz hXz hdz hCz hGz fl
        go_wp2_with fail
        rw [HWF.out]
        exact bodyPost_ret (v := gv (some ⟨L, 0, none⟩) n cL) (by simp [results, Tryd.results10, go_sem, hcell]) rfl HFIN.out
    · have hkc : k ≤ cG := by omega
      have z2 := HX7.out.free 2
      have m2 := HX7.out.cell (k := 2) rfl
      clear y0 y1 y2
      go_upto_region 28 with (fail)
      obtain ⟨wz, hwz⟩ : ∃ wz, w7.setCell ⟨X, 2, none⟩ (.slice (some ⟨G, 0, none⟩) k cG) = wz := ⟨_, rfl⟩
      have hst := grown_cell w7 X 2 (.slice (some ⟨G, 0, none⟩) k cG)
      have hoz := HO7.out.kept hst (.inr (by simp [Value.ownBlock]; omega))
      have hRz := HR7.out.far (p := ⟨X, 2, none⟩) (by simp; omega) (.slice (some ⟨G, 0, none⟩) k cG)
      have hXz := HX7.out.set_ 2 (.slice (some ⟨G, 0, none⟩) k cG)
      have hsz := HS7.out.kept hst (own_ne HS7.out)
      have hok := HK7.out.kept hst (own_ne HK7.out)
      have hCz := HC7.out.kept hst (fun k hk => by injection hk with hk; omega)
      have hGz := HG7.out.andThen hst (fun k hk => .inl (by injection hk with hk; omega))
      rw [hwz] at hok hoz hRz hXz hsz hCz hGz ⊢
      have hsk : Sees wz wz.heap.size (some ⟨G, 0, none⟩) (icells (f.code.take k)) := by rw [icells_take]; exact (Sees.ownN hok).take _
      have hdz : HdAt wz (X + 1) wz.heap.size ⟨P, As, n1, cs, some ⟨G, 0, none⟩, k, cG⟩ ⟨P, f.slots, f.code.take k⟩ := ⟨rfl, HL1.out, by simp [HL2.out]; omega, ⟨hAs, hcs, by simp only; omega⟩, ⟨(fun e => by cases e), hkc, by simp only; omega⟩, hfs, (fun a ha => by injection ha with ha; subst ha; exact hGb), Sees.ownN hsz, hsk⟩
      clear hwz hok hst hsz hsk m2 z2
      obtain ⟨⟨l0, l1, l2⟩, fl⟩ := hd_row hoz HHI.out
      have f0 := fl (i * 3)
      have f1 := fl (i * 3 + 1)
      have f2 := fl (i * 3 + 2)
      simp only at l0 l1 l2
      have p0 := hXz.cell (k := 0) rfl
      have p1 := hXz.cell (k := 1) rfl
      have p2 := hXz.cell (k := 2) rfl
      have r0 := hRz.cell (k := 0) rfl
      have rz := hRz.free 0
      obtain ⟨wf, hwf⟩ : ∃ wf, (((wz.setCell ⟨L, i * 3, none⟩ (.int .i64 P)).setCell ⟨L, i * 3 + 1, none⟩ (.slice As n1 cs)).setCell ⟨L, i * 3 + 2, none⟩ (.slice (some ⟨G, 0, none⟩) k cG)).setCell ⟨w.heap.size + 1, 0, none⟩ (.slice (some ⟨L, 0, none⟩) n cL) = wf := ⟨_, rfl⟩
      have hfin := odd_end hwf H.out hg hlo hoz (by omega : L < X) (by omega : w.heap.size + 1 < X) HHI.out hdz hRz hCz hGz hn80 hI.out (by first | exact HIF.out | exact imm_set HIF.out (HIF.out x (List.mem_of_getElem? HXK.out)) | exact imm_set HIF.out hu8 | exact fun y hy => HIF.out y (List.mem_of_mem_take hy))
      obtain ⟨hfin, hcell⟩ := hfin
      have HFIN := hide hfin
      have HWF := hide hwf
      clear hfin hwf hoz hRz hXz hdz hCz hGz fl
      go_wp2_with fail
      rw [HWF.out]
      exact bodyPost_ret (v := gv (some ⟨L, 0, none⟩) n cL) (by simp [results, Tryd.results10, go_sem, hcell]) rfl HFIN.out
    · by_cases hn10 : n1 = 0
      · obtain rfl := hn10
        go_upto_region 28 with (fail)
        have hoz := HO7.out
        have hRz := HR7.out
        have hXz := HX7.out
        have hCz := HC7.out
        have hGz := HG7.out
        have hdz : HdAt w7 (X + 1) w7.heap.size ⟨P, As, 0, cs, some ⟨G, 0, none⟩, n2, cG⟩ ⟨P, f.slots, f.code⟩ := ⟨rfl, HL1.out, HL2.out, ⟨hAs, hcs, by simp only; omega⟩, ⟨(fun e => by cases e), hGc, by simp only; omega⟩, hfs, (fun a ha => by injection ha with ha; subst ha; exact hGb), Sees.ownN HS7.out, Sees.ownN HK7.out⟩
        clear y0 y1 y2
        obtain ⟨⟨l0, l1, l2⟩, fl⟩ := hd_row hoz HHI.out
        have f0 := fl (i * 3)
        have f1 := fl (i * 3 + 1)
        have f2 := fl (i * 3 + 2)
        simp only at l0 l1 l2
        have p0 := hXz.cell (k := 0) rfl
        have p1 := hXz.cell (k := 1) rfl
        have p2 := hXz.cell (k := 2) rfl
        have r0 := hRz.cell (k := 0) rfl
        have rz := hRz.free 0
        obtain ⟨wf, hwf⟩ : ∃ wf, (((w7.setCell ⟨L, i * 3, none⟩ (.int .i64 P)).setCell ⟨L, i * 3 + 1, none⟩ (.slice As 0 cs)).setCell ⟨L, i * 3 + 2, none⟩ (.slice (some ⟨G, 0, none⟩) n2 cG)).setCell ⟨w.heap.size + 1, 0, none⟩ (.slice (some ⟨L, 0, none⟩) n cL) = wf := ⟨_, rfl⟩
        have hfin := odd_end hwf H.out hg hlo hoz (by omega : L < X) (by omega : w.heap.size + 1 < X) HHI.out hdz hRz hCz hGz hn80 hI.out (by first | exact HIF.out | exact imm_set HIF.out (HIF.out x (List.mem_of_getElem? HXK.out)) | exact imm_set HIF.out hu8 | exact fun y hy => HIF.out y (List.mem_of_mem_take hy))
        obtain ⟨hfin, hcell⟩ := hfin
        have HFIN := hide hfin
        have HWF := hide hwf
        clear hfin hwf hoz hRz hXz hdz hCz hGz fl
        go_wp2_with fail
        rw [HWF.out]
        exact bodyPost_ret (v := gv (some ⟨L, 0, none⟩) n cL) (by simp [results, Tryd.results10, go_sem, hcell]) rfl HFIN.out
      · obtain ⟨Gs, cs', hAs', hGsb, hGsl, hGsc, _⟩ := own_block HS7.out (by omega)
        injection hAs' with e1 _ e3
        subst e1 e3
        have hnG : Gs ≠ G := fun e => HAP.out Gs rfl (by rw [e]; rfl)
        have hlt0 : (0 : Int) < (n1 : Int) := by omega
        have hXGs : X ≠ Gs := by omega
        go_upto_region 27 with (fail)
        clear y0 y1 y2
        have m2 := HXD.out.cell (k := 1) rfl
        go_region_held3 (fun w' => w'.cell? ⟨X, 1, none⟩ = some (.slice (some ⟨Gs, 0, none⟩) n1 cs)) (first | exact m4 | exact m3 | exact m2 | exact keep1 (keep1 m4 (by omega)) (by omega))
          (first
            | (go_at_call 21; refine (cn (n1 : Int) _ HCD (by omega) (by omega)).mono ?_; rintro e w8 ⟨jj, rfl, jj0, jj1, hC8, hG8, _⟩; obtain ⟨j, rfl⟩ := Int.eq_ofNat_of_zero_le jj0; have HC8 := hide hC8; have HG8 := hide (HGD.out.trans hG8); have HX8 := hide (HXD.out.grown hG8 (fun e => by injection e with e; omega)); have HR8 := hide (HRD.out.grown hG8 (fun e => by injection e with e; omega)); have HO8 := hide (own_stay HOD.out (by omega) hG8); have HS8 := hide (own_stay HSD.out hgX hG8); have HK8 := hide (own_stay HKD.out hgX hG8); have m3 := HX8.out.cell (k := 1) rfl; clear hC8 hG8)
            | (go_at_call 25; refine (slot_any g _ HC8).mono ?_; rintro e w9 ⟨s, t, rfl, _, _, hC9, hG9⟩; have HC9 := hide hC9; have HG9 := hide (HG8.out.trans hG9); have HX9 := hide (HX8.out.grown hG9 (fun e => by injection e with e; omega)); have HR9 := hide (HR8.out.grown hG9 (fun e => by injection e with e; omega)); have HO9 := hide (own_stay HO8.out (by omega) hG9); have HS9 := hide (own_stay HS8.out hgX hG9); have HK9 := hide (own_stay HK8.out hgX hG9); have m4 := HX9.out.cell (k := 1) rfl; have hxj := List.getElem?_eq_getElem (l := f.slots) (i := j) (by have := HL1.out; omega); obtain ⟨⟨u0, u1⟩, fz⟩ := slot_row HS9.out hxj; have zz0 := fz (j * 2); have zz1 := fz (j * 2 + 1); have HXJ := hide hxj; clear hC9 hG9 fz hxj))
        have h1 := HS9.out.stored (j * 2) (.int .i64 s)
        have h2 := h1.1.stored (j * 2 + 1) (.int .i64 t)
        have hsz := h2.1
        rw [pset2 _ _ _ HXJ.out] at hsz
        obtain ⟨wz, hwz⟩ : ∃ wz, (w9.setCell ⟨Gs, j * 2, none⟩ (.int .i64 s)).setCell ⟨Gs, j * 2 + 1, none⟩ (.int .i64 t) = wz := ⟨_, rfl⟩
        have hoz := (HO9.out.kept h1.2 (.inr (by simp [Value.ownBlock]; omega))).kept h2.2 (.inr (by simp [Value.ownBlock]; omega))
        have hRz := (HR9.out.far (p := ⟨Gs, j * 2, none⟩) (by simp; omega) (.int .i64 s)).far (p := ⟨Gs, j * 2 + 1, none⟩) (by simp; omega) (.int .i64 t)
        have hXz := (HX9.out.far (p := ⟨Gs, j * 2, none⟩) (by simp; omega) (.int .i64 s)).far (p := ⟨Gs, j * 2 + 1, none⟩) (by simp; omega) (.int .i64 t)
        have hok := (HK9.out.kept h1.2 (.inr (by simp [Value.ownBlock]; omega))).kept h2.2 (.inr (by simp [Value.ownBlock]; omega))
        have hCz := (HC9.out.kept h1.2 (fun k hk => by injection hk with hk; omega)).kept h2.2 (fun k hk => by injection hk with hk; omega)
        have hGz := (HG9.out.andThen h1.2 (fun k hk => .inl (by injection hk with hk; omega))).andThen h2.2 (fun k hk => .inl (by injection hk with hk; omega))
        rw [hwz] at hok hoz hRz hXz hsz hCz hGz ⊢
        have hdz : HdAt wz (X + 1) wz.heap.size ⟨P, some ⟨Gs, 0, none⟩, n1, cs, some ⟨G, 0, none⟩, n2, cG⟩ ⟨P, f.slots.set j (s, t), f.code⟩ := ⟨rfl, by simp [HL1.out], HL2.out, ⟨hAs, hcs, by simp only; omega⟩, ⟨(fun e => by cases e), hGc, by simp only; omega⟩, hfs, (fun a ha => by injection ha with ha; subst ha; exact hGb), Sees.ownN hsz, Sees.ownN hok⟩
        clear hwz hok h1 h2 hsz u0 u1 zz0 zz1 m2 m3 m4
        obtain ⟨⟨l0, l1, l2⟩, fl⟩ := hd_row hoz HHI.out
        have f0 := fl (i * 3)
        have f1 := fl (i * 3 + 1)
        have f2 := fl (i * 3 + 2)
        simp only at l0 l1 l2
        have p0 := hXz.cell (k := 0) rfl
        have p1 := hXz.cell (k := 1) rfl
        have p2 := hXz.cell (k := 2) rfl
        have r0 := hRz.cell (k := 0) rfl
        have rz := hRz.free 0
        obtain ⟨wf, hwf⟩ : ∃ wf, (((wz.setCell ⟨L, i * 3, none⟩ (.int .i64 P)).setCell ⟨L, i * 3 + 1, none⟩ (.slice (some ⟨Gs, 0, none⟩) n1 cs)).setCell ⟨L, i * 3 + 2, none⟩ (.slice (some ⟨G, 0, none⟩) n2 cG)).setCell ⟨w.heap.size + 1, 0, none⟩ (.slice (some ⟨L, 0, none⟩) n cL) = wf := ⟨_, rfl⟩
        have hfin := odd_end hwf H.out hg hlo hoz (by omega : L < X) (by omega : w.heap.size + 1 < X) HHI.out hdz hRz hCz hGz hn80 hI.out (by first | exact HIF.out | exact imm_set HIF.out (HIF.out x (List.mem_of_getElem? HXK.out)) | exact imm_set HIF.out hu8 | exact fun y hy => HIF.out y (List.mem_of_mem_take hy))
        obtain ⟨hfin, hcell⟩ := hfin
        have HFIN := hide hfin
        have HWF := hide hwf
        clear hfin hwf hoz hRz hXz hdz hCz hGz fl
        go_wp2_with fail
        rw [HWF.out]
        exact bodyPost_ret (v := gv (some ⟨L, 0, none⟩) n cL) (by simp [results, Tryd.results10, go_sem, hcell]) rfl HFIN.out
end Go.Proofs.YtpkdeblbobfjbaaDoor
end
