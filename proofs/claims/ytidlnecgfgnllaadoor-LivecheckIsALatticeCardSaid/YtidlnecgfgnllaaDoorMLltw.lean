import Derived.Test.YtidlnecgfgnllaaDoorMAliv
import Derived.Test.YtidlnecgfgnllaaDoorMFrows
import Derived.Test.YtidlnecgfgnllaaDoorMFbg
import Derived.Test.YtidlnecgfgnllaaDoorMOwr
import Derived.Test.YtidlnecgfgnllaaDoorMLcs
import Derived.Test.YtidlnecgfgnllaaDoorMBtrem
import Derived.Test.YtidlnecgfgnllaaDoorMLce3
import Derived.Test.YtidlnecgfgnllaaDoorMLawk
import Derived.Test.YtidlnecgfgnllaaDoorMLscn
import Derived.Test.YtidlnecgfgnllaaDoorMLaw
import Derived.Test.YtidlnecgfgnllaaDoorTie
import Derived.Test.YtidlnecgfgnllaaDoorCards
import Derived.SevenTiedAt
set_option linter.unusedVariables false
set_option linter.unusedSimpArgs false
section
/-
  Two annotations drawn, each stored into a variable of its own, in any order. No function of the program is named here.
-/
namespace Go.Proofs.YtidlnecgfgnllaaDoor
open Go.RowKit

section
variable {a V : World} {r : Option Nat} {g b : Nat}
theorem gl_al (h : a.grownBy V r) (o : Obj) : a.grownBy (V.alloc o) r := h.trans (World.grownBy_alloc _ _ _)
theorem gl_dr (h : a.grownBy V r) : a.grownBy V.drew r := grown_draws h 1
theorem gl_st (h : a.grownBy V (some g)) (hb : a.heap.size ≤ b) (k : Nat) (u : Value) : a.grownBy (V.setCell ⟨b, k, none⟩ u) (some g) := grown_new1 h hb k u
theorem cd_al (h : Codes V g) (o : Obj) : Codes (V.alloc o) g := h.below (below1 _ _)
theorem cd_dr (h : Codes V g) : Codes V.drew g := h.below (Below.refl _ _).drew
end
/-- Two annotations, each in a variable of its own. -/
def TwoL (W : World) (g n2 M : Nat) (l : List Ins) (s6 s7 : Value) (wc : World) : Prop :=
  ∃ (X6 X7 gA cA gB cB : Nat) (va pa vb pb : List Value) (LA LB : List (List Int)), s6 = .pointer (some ⟨X6, 0, none⟩) ∧ s7 = .pointer (some ⟨X7, 0, none⟩) ∧ Row wc X6 25 [.slice (some ⟨gA, 0, none⟩) n2 cA] ∧ Row wc X7 25 [.slice (some ⟨gB, 0, none⟩) n2 cB] ∧
    Anw wc W.heap.size gA va pa LA ∧ Anw wc W.heap.size gB vb pb LB ∧ (LvIn n2 M LA ∧ AccL l M LA) ∧ (LvIn n2 M LB ∧ AccL l M LB) ∧ W.grownBy wc (some g)
section
variable {W V : World} {g n2 M X X6 X7 gA cA gB cB : Nat} {l : List Ins} {va pa vb pb : List Value} {LA LB : List (List Int)} {u u6 u7 : Value}
theorem tl_fin (oA : Anw V W.heap.size gA va pa LA) (oB : Anw V W.heap.size gB vb pb LB) (hA : LvIn n2 M LA ∧ AccL l M LA) (hB : LvIn n2 M LB ∧ AccL l M LB) (hb : W.grownBy V (some g)) (r6 : Row V X6 25 [u6]) (r7 : Row V X7 25 [u7]) (h6 : W.heap.size ≤ X6) (h7 : W.heap.size ≤ X7) (hne : X6 ≠ X7) :
    TwoL W g n2 M l (.pointer (some ⟨X6, 0, none⟩)) (.pointer (some ⟨X7, 0, none⟩)) ((V.setCell ⟨X6, 0, none⟩ (.slice (some ⟨gA, 0, none⟩) n2 cA)).setCell ⟨X7, 0, none⟩ (.slice (some ⟨gB, 0, none⟩) n2 cB)) := by
  have q6 := r6.set_ 0 (.slice (some ⟨gA, 0, none⟩) n2 cA)
  have q7 := r7.far (p := ⟨X6, 0, none⟩) (fun e => hne e.symm) (.slice (some ⟨gA, 0, none⟩) n2 cA)
  refine ⟨X6, X7, gA, cA, gB, cB, va, pa, vb, pb, LA, LB, rfl, rfl, q6.far (p := ⟨X7, 0, none⟩) hne _, q7.set_ 0 _, ?_, ?_, hA, hB, gl_st (gl_st hb h6 _ _) h7 _ _⟩
  · exact (oA.farc (p := ⟨X6, 0, none⟩) r6 rfl (by decide) (by decide)).farc (p := ⟨X7, 0, none⟩) q7 rfl (by decide) (by decide)
  · exact (oB.farc (p := ⟨X6, 0, none⟩) r6 rfl (by decide) (by decide)).farc (p := ⟨X7, 0, none⟩) q7 rfl (by decide) (by decide)
theorem tl_s1 (oA : Anw V W.heap.size gA va pa LA) (oB : Anw V W.heap.size gB vb pb LB) (hA : LvIn n2 M LA ∧ AccL l M LA) (hB : LvIn n2 M LB ∧ AccL l M LB) (hb : W.grownBy V (some g)) : TwoL W g n2 M l (.pointer (some ⟨V.heap.size, 0, none⟩)) (.pointer (some ⟨V.heap.size + 1, 0, none⟩)) ((V.alloc (.cells #[.slice (some ⟨gA, 0, none⟩) n2 cA] 25)).alloc (.cells #[.slice (some ⟨gB, 0, none⟩) n2 cB] 25)) :=
  ⟨_, _, gA, cA, gB, cB, va, pa, vb, pb, LA, LB, rfl, rfl, (Row.new V _ _).alloc _, (Row.new _ _ _).at_ (by simp), (oA.below (below1 _ _)).below (below1 _ _), (oB.below (below1 _ _)).below (below1 _ _), hA, hB, gl_al (gl_al hb _) _⟩
theorem tl_s2 (oA : Anw V W.heap.size gA va pa LA) (oB : Anw V W.heap.size gB vb pb LB) (hA : LvIn n2 M LA ∧ AccL l M LA) (hB : LvIn n2 M LB ∧ AccL l M LB) (hb : W.grownBy V (some g)) : TwoL W g n2 M l (.pointer (some ⟨V.heap.size + 1, 0, none⟩)) (.pointer (some ⟨V.heap.size, 0, none⟩)) ((V.alloc (.cells #[.slice (some ⟨gB, 0, none⟩) n2 cB] 25)).alloc (.cells #[.slice (some ⟨gA, 0, none⟩) n2 cA] 25)) :=
  ⟨_, _, gA, cA, gB, cB, va, pa, vb, pb, LA, LB, rfl, rfl, (Row.new _ _ _).at_ (by simp), (Row.new V _ _).alloc _, (oA.below (below1 _ _)).below (below1 _ _), (oB.below (below1 _ _)).below (below1 _ _), hA, hB, gl_al (gl_al hb _) _⟩
theorem tl_s3 (oA : Anw V W.heap.size gA va pa LA) (oB : Anw V W.heap.size gB vb pb LB) (hA : LvIn n2 M LA ∧ AccL l M LA) (hB : LvIn n2 M LB ∧ AccL l M LB) (hb : W.grownBy V (some g)) (r : Row V X 25 [u]) (hX : W.heap.size ≤ X) : TwoL W g n2 M l (.pointer (some ⟨X, 0, none⟩)) (.pointer (some ⟨V.heap.size, 0, none⟩)) ((V.setCell ⟨X, 0, none⟩ (.slice (some ⟨gA, 0, none⟩) n2 cA)).alloc (.cells #[.slice (some ⟨gB, 0, none⟩) n2 cB] 25)) :=
  ⟨_, _, gA, cA, gB, cB, va, pa, vb, pb, LA, LB, rfl, rfl, (r.set_ 0 _).alloc _, (Row.new _ _ _).at_ (by simp), (oA.farc (p := ⟨X, 0, none⟩) r rfl (by decide) (by decide)).below (below1 _ _), (oB.farc (p := ⟨X, 0, none⟩) r rfl (by decide) (by decide)).below (below1 _ _), hA, hB, gl_al (gl_st hb hX _ _) _⟩
theorem tl_s4 (oA : Anw V W.heap.size gA va pa LA) (oB : Anw V W.heap.size gB vb pb LB) (hA : LvIn n2 M LA ∧ AccL l M LA) (hB : LvIn n2 M LB ∧ AccL l M LB) (hb : W.grownBy V (some g)) (r : Row V X 25 [u]) (hX : W.heap.size ≤ X) : TwoL W g n2 M l (.pointer (some ⟨V.heap.size, 0, none⟩)) (.pointer (some ⟨X, 0, none⟩)) ((V.setCell ⟨X, 0, none⟩ (.slice (some ⟨gB, 0, none⟩) n2 cB)).alloc (.cells #[.slice (some ⟨gA, 0, none⟩) n2 cA] 25)) :=
  ⟨_, _, gA, cA, gB, cB, va, pa, vb, pb, LA, LB, rfl, rfl, (Row.new _ _ _).at_ (by simp), (r.set_ 0 _).alloc _, (oA.farc (p := ⟨X, 0, none⟩) r rfl (by decide) (by decide)).below (below1 _ _), (oB.farc (p := ⟨X, 0, none⟩) r rfl (by decide) (by decide)).below (below1 _ _), hA, hB, gl_al (gl_st hb hX _ _) _⟩
/-- A variable that was made ahead of a call. -/
theorem row_gr {V' : World} {t : TypeId} {cs : List Value} (h : Row V X t cs) (hG : V.grownBy V' (some g)) (hX : g < X) : Row V' X t cs := h.grown hG (fun e => by injection e with e; omega)
theorem tl_a0 {w5 : World} (b5 : (W.alloc (.cells #[.slice none 0 0] 25)).drew.grownBy w5 (some g)) (h : g < W.heap.size) : Row w5 W.heap.size 25 [.slice none 0 0] :=
  row_gr (show Row (W.alloc (.cells #[.slice none 0 0] 25)).drew W.heap.size 25 [.slice none 0 0] from Row.new W 25 [.slice none 0 0]) b5 h
theorem tl_a1 {w5 : World} (b5 : ((W.alloc (.cells #[.slice none 0 0] 25)).alloc (.cells #[.slice none 0 0] 25)).drew.grownBy w5 (some g)) (h : g < W.heap.size) : Row w5 W.heap.size 25 [.slice none 0 0] ∧ Row w5 (W.heap.size + 1) 25 [.slice none 0 0] :=
  ⟨row_gr (show Row ((W.alloc (.cells #[.slice none 0 0] 25)).alloc (.cells #[.slice none 0 0] 25)).drew W.heap.size 25 [.slice none 0 0] from (Row.new W 25 [.slice none 0 0]).alloc (.cells #[.slice none 0 0] 25)) b5 h,
   row_gr (show Row ((W.alloc (.cells #[.slice none 0 0] 25)).alloc (.cells #[.slice none 0 0] 25)).drew (W.heap.size + 1) 25 [.slice none 0 0] from Row.at_ (Row.new (W.alloc (.cells #[.slice none 0 0] 25)) 25 [.slice none 0 0]) (show _ = W.heap.size + 1 by simp)) b5 (by omega)⟩
end
end Go.Proofs.YtidlnecgfgnllaaDoor
end

section
/-
  Regions whose order is open, over a frame that is a letter: what slots hold said by a table; operations one by one. No function of the program is named here.
-/
namespace Go.Proofs.YtidlnecgfgnllaaDoor
open Go.RowKit

section
variable {P : Program} {o : Oper} {a : Act} {w w' : World} {K : Act → World → Prop} {Q : Exit → Act → World → Prop}
theorem op_value {v : Value} (hr : (execOp a.eval o).run P w = .ok (.value v) w') (h : K (a.put o.dst v) w') : o.wp P a w K Q := by
  unfold Oper.wp
  rw [hr]
  exact h
theorem op_skip (hr : (execOp a.eval o).run P w = .ok .skip w') (h : K (a.put o.dst undef) w') : o.wp P a w K Q := by
  unfold Oper.wp
  rw [hr]
  exact h
theorem op_call {f : FuncId} {args : Array Value} (hr : (execOp a.eval o).run P w = .ok (.enter f args) w) (h : Calls P f args w fun e w' => ∃ v, e = .returned v ∧ K (a.put o.dst v) w') : o.wp P a w K Q := by
  unfold Oper.wp
  rw [hr]
  refine Calls.mono h ?_
  rintro e w' ⟨v, rfl, hk⟩
  exact hk
end
theorem eval_put_same {a : Act} {d : Nat} (v : Value) (h : d < a.tmps.size) : (a.put (some d) v).eval (.tmp d) = v := by
  show (a.tmps.setIfInBounds d v).getD d undef = v
  simp [Array.getD_eq_getD_getElem?, h]
theorem eval_put_ne {a : Act} {d t : Nat} (v : Value) (h : t ≠ d) : (a.put (some d) v).eval (.tmp t) = a.eval (.tmp t) := by
  show (a.tmps.setIfInBounds d v).getD t undef = a.tmps.getD t undef
  simp [Array.getD_eq_getD_getElem?, Array.getElem?_setIfInBounds, Ne.symm h]
theorem flag_set {l : Array Bool} {i j : Nat} (hi : i < l.size) : (l.setIfInBounds i true).getD j false = (decide (i = j) || l.getD j false) := by
  simp only [Array.getD_eq_getD_getElem?, Array.getElem?_setIfInBounds]
  by_cases e : i = j
  · subst e
    simp [hi]
  · simp [e]
theorem flag_two {l : Array Bool} {i : Nat} (hi : i < l.size) : l.getD i true = l.getD i false := by
  simp [Array.getD_eq_getD_getElem?, hi]
/-- What slots hold: slot D i holds val i once operation i has come up. -/
def Evs (D : Nat → Nat) (n : Nat) (val : Nat → Value) (l : Array Bool) (a : Act) : Prop := ∀ i, i < n → l.getD i false = true → D i < 1000 → a.eval (.tmp (D i)) = val i
section
variable {D : Nat → Nat} {n : Nat} {val : Nat → Value} {l : Array Bool} {a : Act} {i : Nat}
theorem Evs.put (h : Evs D n val l a) (hl : l.size = n) (hi : i < n) (hd : ∀ j, j < n → D j = D i → j = i) (hs : D i < a.tmps.size) : Evs D n val (l.setIfInBounds i true) (a.put (some (D i)) (val i)) := by
  intro j hj hf hlt
  rw [flag_set (by omega)] at hf
  by_cases e : i = j
  · subst e
    exact eval_put_same _ hs
  · rw [eval_put_ne _ (fun e2 => e (hd j hj e2).symm)]
    exact h j hj (by simpa [e] using hf) hlt
theorem Evs.skip (h : Evs D n val l a) (hl : l.size = n) (hi : i < n) (hs : 1000 ≤ D i) (v : Value) : Evs D n val (l.setIfInBounds i true) (a.put none v) := by
  intro j hj hf hlt
  rw [flag_set (by omega)] at hf
  by_cases e : i = j
  · subst e
    omega
  · exact h j hj (by simpa [e] using hf) hlt
end
theorem ready_done {ops : Array Oper} {l : Array Bool} {i : Nat} {o : Oper} (hr : Region.ready .any ops l = []) (hi : i < l.size) (ho : ops[i]? = some o) (ha : o.after.all (fun e => !Region.binds .any e || l.getD e.on false) = true) : l.getD i false = true := by
  cases h : l.getD i true with
  | true => rw [← flag_two hi]; exact h
  | false => exact (ready_no hr ho h ha).elim
/-- A frame, spelled out. -/
theorem act_lit {a : Act} {n : Nat} (hs : a.tmps.size = n) (hd : a.defers = []) : a = ⟨((List.range n).map fun j => a.eval (.tmp j)).toArray, []⟩ := by
  obtain ⟨t, d⟩ := a
  simp only at hs hd
  subst hd
  congr 1
  apply Array.ext
  · simp [hs]
  · intro j h1 h2
    simp [Act.eval, Array.getD_eq_getD_getElem?, h1]
end Go.Proofs.YtidlnecgfgnllaaDoor
end

section
/-
  Two rows of slices that grow by one, each by a copy and an append, in any order: what each operation keeps. No function of the program is named here.
-/
namespace Go.Proofs.YtidlnecgfgnllaaDoor
open Go.RowKit

/-- A frame in which fourteen slots from D on hold y. -/
def updN (D : Nat) (T : Array Value) (y : Nat → Value) : Nat → Array Value
  | 0 => T
  | n + 1 => (updN D T y n).setIfInBounds (D + n) (y n)
def upd (y : Nat → Value) (i : Nat) (v : Value) : Nat → Value := fun j => if j = i then v else y j
section
variable {D n k i : Nat} {T : Array Value} {y : Nat → Value} {v : Value}
theorem upd_same (y : Nat → Value) (i : Nat) (v : Value) : upd y i v i = v := by simp [upd]
theorem upd_ne (y : Nat → Value) {i j : Nat} (v : Value) (h : j ≠ i) : upd y i v j = y j := by simp [upd, h]
theorem updN_size (D : Nat) (T : Array Value) (y : Nat → Value) : ∀ n : Nat, (updN D T y n).size = T.size
  | 0 => rfl
  | n + 1 => by
    show ((updN D T y n).setIfInBounds (D + n) (y n)).size = T.size
    simp [updN_size D T y n]
theorem updN_get (D : Nat) (T : Array Value) (y : Nat → Value) (k : Nat) : ∀ n : Nat, (updN D T y n)[k]? = if D ≤ k ∧ k < D + n then (T[k]?).map (fun _ => y (k - D)) else T[k]?
  | 0 => by
    rw [if_neg (by omega)]; rfl
  | n + 1 => by
    show ((updN D T y n).setIfInBounds (D + n) (y n))[k]? = _
    rw [Array.getElem?_setIfInBounds, updN_get D T y k n, updN_size]
    by_cases e : D + n = k
    · subst e
      rw [if_pos rfl, show D + n - D = n by omega]
      by_cases h : D + n < T.size
      · rw [if_pos h, if_pos (by omega), Array.getElem?_eq_getElem h]; rfl
      · rw [if_neg h, if_pos (by omega), Array.getElem?_eq_none (by omega)]; rfl
    · rw [if_neg e]
      by_cases h : D ≤ k ∧ k < D + n
      · rw [if_pos h, if_pos (by omega)]
      · rw [if_neg h, if_neg (by omega)]
theorem updN_eval (h1 : D ≤ k) (h2 : k < D + n) (h3 : k < T.size) : (⟨updN D T y n, []⟩ : Act).eval (.tmp k) = y (k - D) := by
  show (updN D T y n).getD k undef = _
  rw [Array.getD_eq_getD_getElem?, updN_get, if_pos ⟨h1, h2⟩, Array.getElem?_eq_getElem h3]; rfl
theorem updN_out (h : k < D ∨ D + n ≤ k) : (⟨updN D T y n, []⟩ : Act).eval (.tmp k) = (⟨T, []⟩ : Act).eval (.tmp k) := by
  show (updN D T y n).getD k undef = T.getD k undef
  rw [Array.getD_eq_getD_getElem?, Array.getD_eq_getD_getElem?, updN_get, if_neg (by omega)]
theorem updN_put (hi : i < n) : (⟨updN D T y n, []⟩ : Act).put (some (D + i)) v = ⟨updN D T (upd y i v) n, []⟩ := by
  show (⟨(updN D T y n).setIfInBounds (D + i) v, []⟩ : Act) = _
  congr 1
  apply Array.ext_getElem?
  intro k
  rw [Array.getElem?_setIfInBounds, updN_get, updN_get, updN_size]
  by_cases e : D + i = k
  · subst e
    rw [if_pos rfl, show D + i - D = i by omega, upd_same]
    by_cases h : D + i < T.size
    · rw [if_pos h, if_pos (by omega), Array.getElem?_eq_getElem h]; rfl
    · rw [if_neg h, if_pos (by omega), Array.getElem?_eq_none (by omega)]; rfl
  · rw [if_neg e]
    by_cases h : D ≤ k ∧ k < D + n
    · rw [if_pos h, if_pos h, upd_ne _ _ (by omega)]
    · rw [if_neg h, if_neg h]
theorem updN_start (D : Nat) (T : Array Value) (n : Nat) : updN D T (fun j => T.getD (D + j) undef) n = T := by
  apply Array.ext_getElem?
  intro k
  rw [updN_get]
  by_cases h : D ≤ k ∧ k < D + n
  · rw [if_pos h]
    by_cases h2 : k < T.size
    · rw [Array.getElem?_eq_getElem h2, Option.map_some, show D + (k - D) = k by omega, Array.getD_eq_getD_getElem?, Array.getElem?_eq_getElem h2]; rfl
    · rw [Array.getElem?_eq_none (by omega)]; rfl
  · rw [if_neg h]
end
/-- A literal of one element. -/
def LitAt (w : World) (x v : Value) : Prop := ∃ b, x = .slice (some ⟨b, 0, none⟩) 1 1 ∧ b < w.heap.size ∧ w.cell? ⟨b, 0, none⟩ = some v
def pureB (i : Nat) : Bool := decide (i = 0 ∨ i = 1 ∨ i = 3 ∨ i = 6 ∨ i = 7 ∨ i = 9 ∨ i = 12 ∨ i = 14)
/-- Slots by operation. -/
def sl14 (i : Nat) : Nat := if i = 14 then 13 else i
structure GwI (e : TypeId) (wr : World) (X8 X9 k : Nat) (usU usM : List Value) (vx vy : Value) (pv : Nat → Value) (f : Nat → Bool) (y : Nat → Value) (V : World) : Prop where
  p : ∀ i, pureB i = true → f i = true → y (sl14 i) = pv i
  b : f 13 = false → Below wr.heap.size wr V
  o5 : f 5 = true → f 2 = true ∧ f 4 = true
  o8 : f 8 = true → f 5 = true ∧ f 7 = true
  o11 : f 11 = true → f 8 = true ∧ f 10 = true
  m2 : f 2 = true → f 5 = false → V.ownsRow wr.heap.size e 1 (y 2) k usU ∧ (f 10 = true → (y 2).ownBlock ≠ (y 10).ownBlock)
  m4 : f 4 = true → f 5 = false → LitAt V (y 4) vx
  m5 : f 5 = true → f 13 = false → V.ownsRow wr.heap.size e 1 (y 5) (k + 1) (usU ++ [vx])
  m8 : f 8 = true → f 11 = false → V.ownsRow wr.heap.size e 1 (y 8) k usM ∧ (y 8).ownBlock ≠ (y 5).ownBlock
  m10 : f 10 = true → f 11 = false → LitAt V (y 10) vy
  m11 : f 11 = true → f 13 = false → V.ownsRow wr.heap.size e 1 (y 11) (k + 1) (usM ++ [vy])
  s : f 13 = true → (f 1 = true ∧ f 5 = true ∧ f 7 = true ∧ f 11 = true) ∧ ∃ V0, Below wr.heap.size wr V0 ∧ V0.ownsRow wr.heap.size e 1 (y 5) (k + 1) (usU ++ [vx]) ∧ V0.ownsRow wr.heap.size e 1 (y 11) (k + 1) (usM ++ [vy]) ∧
    V = if f 15 = true then (V0.setCell ⟨X8, 0, none⟩ (y 5)).setCell ⟨X9, 0, none⟩ (y 11) else V0.setCell ⟨X8, 0, none⟩ (y 5)
  s0 : f 13 = false → f 15 = false
def onF (f : Nat → Bool) (i : Nat) : Nat → Bool := fun j => decide (j = i) || f j
section
variable {e : TypeId} {wr V V' : World} {X8 X9 k i : Nat} {usU usM : List Value} {vx vy v : Value} {pv : Nat → Value} {f : Nat → Bool} {y : Nat → Value}
theorem onF_ne {j : Nat} (h : j ≠ i) : onF f i j = f j := by simp [onF, h]
theorem onF_same : onF f i i = true := by simp [onF]
theorem onF_mono {j : Nat} (h : f j = true) : onF f i j = true := by simp [onF, h]
theorem LitAt.below {w w' : World} {x v : Value} (h : LitAt w x v) (hb : Below w.heap.size w w') : LitAt w' x v := by
  obtain ⟨b, e, h1, h2⟩ := h
  exact ⟨b, e, Nat.lt_of_lt_of_le h1 hb.size, keep_cellB hb h2⟩
theorem LitAt.own {w : World} {x v : Value} (h : LitAt w x v) : ∃ b, x.ownBlock = some b ∧ b < w.heap.size := by
  obtain ⟨b, rfl, h1, -⟩ := h
  exact ⟨b, rfl, h1⟩
theorem LitAt.new (w : World) (v : Value) (e : TypeId) : LitAt (w.alloc (.cells #[v] e)) (.slice (some ⟨w.heap.size, 0, none⟩) 1 1) v :=
  ⟨w.heap.size, rfl, by simp, (Row.new w e [v]).cell rfl⟩
theorem LitAt.grown {w w' : World} {x v : Value} {r : Option Nat} (h : LitAt w x v) (hg : w.grownBy w' r) (hne : r ≠ x.ownBlock) : LitAt w' x v := by
  obtain ⟨b, rfl, h1, h2⟩ := h
  exact ⟨b, rfl, Nat.lt_of_lt_of_le h1 hg.size, (World.cell?_of_block (hg.block b h1 (fun e => hne e.symm))).trans h2⟩
theorem LitAt.sees {w : World} {x v : Value} (h : LitAt w x v) : ∃ b, x = .slice (some ⟨b, 0, none⟩) 1 1 ∧ Sees w w.heap.size (some ⟨b, 0, none⟩) [v] := by
  obtain ⟨b, rfl, h1, h2⟩ := h
  refine ⟨b, rfl, fun k u hu => ?_⟩
  cases k with
  | zero => simp at hu; subst hu; exact ⟨b, 0, rfl, h1, h2⟩
  | succ k => simp at hu
theorem own_grown {w w' : World} {base n : Nat} {x : Value} {xs : List Value} {r : Option Nat} (h : w.ownsRow base e 1 x n xs) (hg : w.grownBy w' r) (hne : r ≠ x.ownBlock) : w'.ownsRow base e 1 x n xs :=
  h.kept hg (by
    cases hb : x.ownBlock with
    | none => exact .inl rfl
    | some b => exact .inr (by rw [hb] at hne; exact fun e => hne e.symm))
/-- An operation that only reads. -/
theorem GwI.pure (h : GwI e wr X8 X9 k usU usM vx vy pv f y V) (hi : pureB i = true) (hf : f i = false) : GwI e wr X8 X9 k usU usM vx vy pv (onF f i) (upd y (sl14 i) (pv i)) V := by
  have hi' := of_decide_eq_true hi
  have q : ∀ j, pureB j = false → j < 16 → onF f i j = f j := fun j hj _ => onF_ne (fun e => by subst e; rw [hi] at hj; cases hj)
  have r : ∀ j, pureB j = false → j < 13 → upd y (sl14 i) (pv i) j = y j := fun j hj hl => upd_ne _ _ (fun e => by
    have : sl14 i = i ∨ sl14 i = 13 := by unfold sl14; split <;> simp
    rcases this with h | h
    · rw [h] at e; subst e; rw [hi] at hj; cases hj
    · omega)
  have q13 := q 13 rfl (by omega)
  have q5 := q 5 rfl (by omega)
  have q2 := q 2 rfl (by omega)
  have q4 := q 4 rfl (by omega)
  have q8 := q 8 rfl (by omega)
  have q10 := q 10 rfl (by omega)
  have q11 := q 11 rfl (by omega)
  have q15 := q 15 rfl (by omega)
  have r2 := r 2 rfl (by omega)
  have r4 := r 4 rfl (by omega)
  have r5 := r 5 rfl (by omega)
  have r8 := r 8 rfl (by omega)
  have r10 := r 10 rfl (by omega)
  have r11 := r 11 rfl (by omega)
  refine ⟨fun j hj hfj => ?_, by rw [q13]; exact h.b, by rw [q5, q2, q4]; exact h.o5, fun h8 => ⟨by rw [q5]; exact (h.o8 (by rw [q8] at h8; exact h8)).1, onF_mono (h.o8 (by rw [q8] at h8; exact h8)).2⟩, by rw [q11, q8, q10]; exact h.o11, by rw [q2, q5, q10, r2, r10]; exact h.m2, by rw [q4, q5, r4]; exact h.m4, by rw [q5, q13, r5]; exact h.m5, by rw [q8, q11, r8, r5]; exact h.m8, by rw [q10, q11, r10]; exact h.m10, by rw [q11, q13, r11]; exact h.m11, ?_, by rw [q13, q15]; exact h.s0⟩
  · by_cases e : j = i
    · subst e; exact upd_same _ _ _
    · have hj' := of_decide_eq_true hj
      rw [upd_ne _ _ (by unfold sl14; split <;> split <;> omega)]
      exact h.p j hj (by rw [onF_ne e] at hfj; exact hfj)
  · rw [q13, q15, r5, r11]
    intro h13
    obtain ⟨s1, s2⟩ := h.s h13
    exact ⟨⟨onF_mono s1.1, onF_mono s1.2.1, onF_mono s1.2.2.1, onF_mono s1.2.2.2⟩, s2⟩
theorem GwI.pureAt (h : GwI e wr X8 X9 k usU usM vx vy pv f y V) (i j : Nat) (v : Value) (hi : pureB i = true) (hf : f i = false) (hj : sl14 i = j) (hv : pv i = v) : GwI e wr X8 X9 k usU usM vx vy pv (onF f i) (upd y j v) V := by
  rw [← hj, ← hv]
  exact h.pure hi hf
/-- What holds of the flags before an operation of the chain comes up. -/
theorem GwI.low (h : GwI e wr X8 X9 k usU usM vx vy pv f y V) {j : Nat} (hj : j = 1 ∨ j = 2 ∨ j = 4 ∨ j = 5 ∨ j = 7 ∨ j = 8 ∨ j = 10 ∨ j = 11) (hf : f j = false) : f 13 = false ∧ f 15 = false := by
  have h13 : f 13 = false := by
    cases hb : f 13 with
    | false => rfl
    | true =>
      obtain ⟨a1, a5, a7, a11⟩ := (h.s hb).1
      obtain ⟨a2, a4⟩ := h.o5 a5
      obtain ⟨a8, a10⟩ := h.o11 a11
      rcases hj with rfl | rfl | rfl | rfl | rfl | rfl | rfl | rfl <;> simp_all
  exact ⟨h13, h.s0 h13⟩
theorem own_size {w : World} {base n : Nat} {x : Value} {xs : List Value} (h : w.ownsRow base e 1 x n xs) (b : Nat) (hb : x.ownBlock = some b) : base ≤ b ∧ b < w.heap.size := h.lt b hb
/-- The first copy. -/
theorem GwI.op2 (h : GwI e wr X8 X9 k usU usM vx vy pv f y V) (hf : f 2 = false) (hg : V.grownBy V' none) (ho : V'.ownsRow V.heap.size e 1 v k usU) : GwI e wr X8 X9 k usU usM vx vy pv (onF f 2) (upd y 2 v) V' := by
  obtain ⟨h13, h15⟩ := h.low (j := 2) (by decide) hf
  have h5 : f 5 = false := by
    cases hb : f 5 with
    | false => rfl
    | true => rw [(h.o5 hb).1] at hf; cases hf
  have h8 : f 8 = false := by
    cases hb : f 8 with
    | false => rfl
    | true => rw [(h.o8 hb).1] at h5; cases h5
  have h11 : f 11 = false := by
    cases hb : f 11 with
    | false => rfl
    | true => rw [(h.o11 hb).1] at h8; cases h8
  have hb := h.b h13
  have hbv : Below V.heap.size V V' := (Below.refl V.heap.size V).grown hg (Nat.le_refl _) (fun k hk => by cases hk)
  have g : ∀ j, j ≠ 2 → onF f 2 j = f j := fun j hj => onF_ne hj
  have u : ∀ j, j ≠ 2 → upd y 2 v j = y j := fun j hj => upd_ne _ _ hj
  refine ⟨fun j hj hfj => ?_, fun _ => below_call hb hbv, fun q => ?_, fun q => ?_, fun q => ?_, fun _ _ => ⟨?_, fun q => ?_⟩, fun q _ => ?_, fun q => ?_, fun q => ?_, fun q _ => ?_, fun q => ?_, fun q => ?_, fun _ => ?_⟩
  · have hj' := of_decide_eq_true hj
    rw [u _ (by unfold sl14; split <;> omega)]
    exact h.p j hj (by rw [g _ (by omega)] at hfj; exact hfj)
  · rw [g 5 (by decide), h5] at q; cases q
  · rw [g 8 (by decide), h8] at q; cases q
  · rw [g 11 (by decide), h11] at q; cases q
  · rw [upd_same]; exact own_lower ho hb.size
  · rw [g 10 (by decide)] at q
    rw [upd_same, u 10 (by decide)]
    obtain ⟨b, hb1, hb2⟩ := (h.m10 q h11).own
    rw [hb1]
    intro e1
    have := (own_size ho b e1).1
    omega
  · rw [g 4 (by decide)] at q
    rw [u 4 (by decide)]
    exact (h.m4 q h5).below hbv
  · rw [g 5 (by decide), h5] at q; cases q
  · rw [g 8 (by decide), h8] at q; cases q
  · rw [g 10 (by decide)] at q
    rw [u 10 (by decide)]
    exact (h.m10 q h11).below hbv
  · rw [g 11 (by decide), h11] at q; cases q
  · rw [g 13 (by decide), h13] at q; cases q
  · rw [g 15 (by decide)]; exact h15
/-- The first literal. -/
theorem GwI.op4 (h : GwI e wr X8 X9 k usU usM vx vy pv f y V) (hf : f 4 = false) : GwI e wr X8 X9 k usU usM vx vy pv (onF f 4) (upd y 4 (.slice (some ⟨V.heap.size, 0, none⟩) 1 1)) (V.alloc (.cells #[vx] e)) := by
  obtain ⟨h13, h15⟩ := h.low (j := 4) (by decide) hf
  have h5 : f 5 = false := by
    cases hb : f 5 with
    | false => rfl
    | true => rw [(h.o5 hb).2] at hf; cases hf
  have h8 : f 8 = false := by
    cases hb : f 8 with
    | false => rfl
    | true => rw [(h.o8 hb).1] at h5; cases h5
  have h11 : f 11 = false := by
    cases hb : f 11 with
    | false => rfl
    | true => rw [(h.o11 hb).1] at h8; cases h8
  have hb := h.b h13
  have hbv : Below V.heap.size V (V.alloc (.cells #[vx] e)) := below1 _ _
  have g : ∀ j, j ≠ 4 → onF f 4 j = f j := fun j hj => onF_ne hj
  have u : ∀ j, j ≠ 4 → upd y 4 (.slice (some ⟨V.heap.size, 0, none⟩) 1 1) j = y j := fun j hj => upd_ne _ _ hj
  refine ⟨fun j hj hfj => ?_, fun _ => below_call hb hbv, fun q => ?_, fun q => ?_, fun q => ?_, fun q _ => ?_, fun q _ => ?_, fun q => ?_, fun q => ?_, fun q _ => ?_, fun q => ?_, fun q => ?_, fun _ => ?_⟩
  · have hj' := of_decide_eq_true hj
    rw [u _ (by unfold sl14; split <;> omega)]
    exact h.p j hj (by rw [g _ (by omega)] at hfj; exact hfj)
  · rw [g 5 (by decide), h5] at q; cases q
  · rw [g 8 (by decide), h8] at q; cases q
  · rw [g 11 (by decide), h11] at q; cases q
  · rw [g 2 (by decide)] at q
    rw [u 2 (by decide), u 10 (by decide), g 10 (by decide)]
    exact ⟨own_below (h.m2 q h5).1 hbv, (h.m2 q h5).2⟩
  · rw [upd_same]; exact LitAt.new _ _ _
  · rw [g 5 (by decide), h5] at q; cases q
  · rw [g 8 (by decide), h8] at q; cases q
  · rw [g 10 (by decide)] at q
    rw [u 10 (by decide)]
    exact (h.m10 q h11).below hbv
  · rw [g 11 (by decide), h11] at q; cases q
  · rw [g 13 (by decide), h13] at q; cases q
  · rw [g 15 (by decide)]; exact h15
/-- The first append. -/
theorem GwI.op5 (h : GwI e wr X8 X9 k usU usM vx vy pv f y V) (hf : f 5 = false) (h2 : f 2 = true) (h4 : f 4 = true) (hg : V.grownBy V' (y 2).ownBlock) (ho : V'.ownsRow wr.heap.size e 1 v (k + 1) (usU ++ [vx])) : GwI e wr X8 X9 k usU usM vx vy pv (onF f 5) (upd y 5 v) V' := by
  obtain ⟨h13, h15⟩ := h.low (j := 5) (by decide) hf
  have h8 : f 8 = false := by
    cases hb : f 8 with
    | false => rfl
    | true => rw [(h.o8 hb).1] at hf; cases hf
  have h11 : f 11 = false := by
    cases hb : f 11 with
    | false => rfl
    | true => rw [(h.o11 hb).1] at h8; cases h8
  have hb := h.b h13
  obtain ⟨m2, d2⟩ := h.m2 h2 hf
  have hbv : Below wr.heap.size wr V' := below_append hb m2 (Nat.le_refl _) hg hb.size
  have g : ∀ j, j ≠ 5 → onF f 5 j = f j := fun j hj => onF_ne hj
  have u : ∀ j, j ≠ 5 → upd y 5 v j = y j := fun j hj => upd_ne _ _ hj
  refine ⟨fun j hj hfj => ?_, fun _ => hbv, fun _ => ?_, fun q => ?_, fun q => ?_, fun _ q => ?_, fun _ q => ?_, fun _ _ => ?_, fun q => ?_, fun q _ => ?_, fun q => ?_, fun q => ?_, fun _ => ?_⟩
  · have hj' := of_decide_eq_true hj
    rw [u _ (by unfold sl14; split <;> omega)]
    exact h.p j hj (by rw [g _ (by omega)] at hfj; exact hfj)
  · rw [g 2 (by decide), g 4 (by decide)]; exact ⟨h2, h4⟩
  · rw [g 8 (by decide), h8] at q; cases q
  · rw [g 11 (by decide), h11] at q; cases q
  · rw [onF_same] at q; cases q
  · rw [onF_same] at q; cases q
  · rw [upd_same]; exact ho
  · rw [g 8 (by decide), h8] at q; cases q
  · rw [g 10 (by decide)] at q
    rw [u 10 (by decide)]
    exact (h.m10 q h11).grown hg (d2 q)
  · rw [g 11 (by decide), h11] at q; cases q
  · rw [g 13 (by decide), h13] at q; cases q
  · rw [g 15 (by decide)]; exact h15
/-- The second copy. -/
theorem GwI.op8 (h : GwI e wr X8 X9 k usU usM vx vy pv f y V) (hf : f 8 = false) (h7 : f 7 = true) (h5 : f 5 = true) (hg : V.grownBy V' none) (ho : V'.ownsRow V.heap.size e 1 v k usM) : GwI e wr X8 X9 k usU usM vx vy pv (onF f 8) (upd y 8 v) V' := by
  obtain ⟨h13, h15⟩ := h.low (j := 8) (by decide) hf
  have h11 : f 11 = false := by
    cases hb : f 11 with
    | false => rfl
    | true => rw [(h.o11 hb).1] at hf; cases hf
  have hb := h.b h13
  have hbv : Below V.heap.size V V' := (Below.refl V.heap.size V).grown hg (Nat.le_refl _) (fun k hk => by cases hk)
  have g : ∀ j, j ≠ 8 → onF f 8 j = f j := fun j hj => onF_ne hj
  have u : ∀ j, j ≠ 8 → upd y 8 v j = y j := fun j hj => upd_ne _ _ hj
  have m5 := h.m5 h5 h13
  refine ⟨fun j hj hfj => ?_, fun _ => below_call hb hbv, fun _ => ?_, fun _ => ?_, fun q => ?_, fun _ q => ?_, fun _ q => ?_, fun _ _ => ?_, fun _ _ => ⟨?_, ?_⟩, fun q _ => ?_, fun q => ?_, fun q => ?_, fun _ => ?_⟩
  · have hj' := of_decide_eq_true hj
    rw [u _ (by unfold sl14; split <;> omega)]
    exact h.p j hj (by rw [g _ (by omega)] at hfj; exact hfj)
  · rw [g 2 (by decide), g 4 (by decide)]; exact h.o5 h5
  · rw [g 5 (by decide), g 7 (by decide)]; exact ⟨h5, h7⟩
  · rw [g 11 (by decide), h11] at q; cases q
  · rw [g 5 (by decide), h5] at q; cases q
  · rw [g 5 (by decide), h5] at q; cases q
  · rw [u 5 (by decide)]; exact own_below m5 hbv
  · rw [upd_same]; exact own_lower ho hb.size
  · rw [upd_same, u 5 (by decide)]
    intro e1
    cases hq : (y 5).ownBlock with
    | none =>
      rcases m5.2 with ⟨-, h0⟩ | ⟨G, cap, cur, e2, -⟩
      · omega
      · rw [e2] at hq; cases hq
    | some b =>
      have a1 := (own_size m5 b hq).2
      have a2 := (own_size ho b (by rw [e1, hq])).1
      omega
  · rw [g 10 (by decide)] at q
    rw [u 10 (by decide)]
    exact (h.m10 q h11).below hbv
  · rw [g 11 (by decide), h11] at q; cases q
  · rw [g 13 (by decide), h13] at q; cases q
  · rw [g 15 (by decide)]; exact h15
/-- The second literal. -/
theorem GwI.op10 (h : GwI e wr X8 X9 k usU usM vx vy pv f y V) (hf : f 10 = false) : GwI e wr X8 X9 k usU usM vx vy pv (onF f 10) (upd y 10 (.slice (some ⟨V.heap.size, 0, none⟩) 1 1)) (V.alloc (.cells #[vy] e)) := by
  obtain ⟨h13, h15⟩ := h.low (j := 10) (by decide) hf
  have h11 : f 11 = false := by
    cases hb : f 11 with
    | false => rfl
    | true => rw [(h.o11 hb).2] at hf; cases hf
  have hb := h.b h13
  have hbv : Below V.heap.size V (V.alloc (.cells #[vy] e)) := below1 _ _
  have g : ∀ j, j ≠ 10 → onF f 10 j = f j := fun j hj => onF_ne hj
  have u : ∀ j, j ≠ 10 → upd y 10 (.slice (some ⟨V.heap.size, 0, none⟩) 1 1) j = y j := fun j hj => upd_ne _ _ hj
  refine ⟨fun j hj hfj => ?_, fun _ => below_call hb hbv, ?_, ?_, fun q => ?_, fun q q5 => ⟨?_, fun _ => ?_⟩, fun q q5 => ?_, fun q _ => ?_, fun q _ => ⟨?_, ?_⟩, fun _ _ => ?_, fun q => ?_, fun q => ?_, fun _ => ?_⟩
  · have hj' := of_decide_eq_true hj
    rw [u _ (by unfold sl14; split <;> omega)]
    exact h.p j hj (by rw [g _ (by omega)] at hfj; exact hfj)
  · rw [g 5 (by decide), g 2 (by decide), g 4 (by decide)]; exact h.o5
  · rw [g 8 (by decide), g 5 (by decide), g 7 (by decide)]; exact h.o8
  · rw [g 11 (by decide), h11] at q; cases q
  · rw [g 2 (by decide)] at q
    rw [g 5 (by decide)] at q5
    rw [u 2 (by decide)]
    exact own_below (h.m2 q q5).1 hbv
  · rw [g 2 (by decide)] at q
    rw [g 5 (by decide)] at q5
    rw [u 2 (by decide), upd_same]
    intro e1
    have := (own_size (h.m2 q q5).1 V.heap.size e1).2
    omega
  · rw [g 4 (by decide)] at q
    rw [g 5 (by decide)] at q5
    rw [u 4 (by decide)]
    exact (h.m4 q q5).below hbv
  · rw [g 5 (by decide)] at q
    rw [u 5 (by decide)]
    exact own_below (h.m5 q h13) hbv
  · rw [g 8 (by decide)] at q
    rw [u 8 (by decide)]
    exact own_below (h.m8 q h11).1 hbv
  · rw [g 8 (by decide)] at q
    rw [u 8 (by decide), u 5 (by decide)]
    exact (h.m8 q h11).2
  · rw [upd_same]; exact LitAt.new _ _ _
  · rw [g 11 (by decide), h11] at q; cases q
  · rw [g 13 (by decide), h13] at q; cases q
  · rw [g 15 (by decide)]; exact h15
/-- The second append. -/
theorem GwI.op11 (h : GwI e wr X8 X9 k usU usM vx vy pv f y V) (hf : f 11 = false) (h8 : f 8 = true) (h10 : f 10 = true) (hg : V.grownBy V' (y 8).ownBlock) (ho : V'.ownsRow wr.heap.size e 1 v (k + 1) (usM ++ [vy])) : GwI e wr X8 X9 k usU usM vx vy pv (onF f 11) (upd y 11 v) V' := by
  obtain ⟨h13, h15⟩ := h.low (j := 11) (by decide) hf
  have hb := h.b h13
  obtain ⟨m8, d8⟩ := h.m8 h8 hf
  obtain ⟨h5, h7⟩ := h.o8 h8
  have m5 := h.m5 h5 h13
  have hbv : Below wr.heap.size wr V' := below_append hb m8 (Nat.le_refl _) hg hb.size
  have g : ∀ j, j ≠ 11 → onF f 11 j = f j := fun j hj => onF_ne hj
  have u : ∀ j, j ≠ 11 → upd y 11 v j = y j := fun j hj => upd_ne _ _ hj
  refine ⟨fun j hj hfj => ?_, fun _ => hbv, fun _ => ?_, fun _ => ?_, fun _ => ?_, fun _ q => ?_, fun _ q => ?_, fun _ _ => ?_, fun _ q => ?_, fun _ q => ?_, fun _ _ => ?_, fun q => ?_, fun _ => ?_⟩
  · have hj' := of_decide_eq_true hj
    rw [u _ (by unfold sl14; split <;> omega)]
    exact h.p j hj (by rw [g _ (by omega)] at hfj; exact hfj)
  · rw [g 2 (by decide), g 4 (by decide)]; exact h.o5 h5
  · rw [g 5 (by decide), g 7 (by decide)]; exact ⟨h5, h7⟩
  · rw [g 8 (by decide), g 10 (by decide)]; exact ⟨h8, h10⟩
  · rw [g 5 (by decide), h5] at q; cases q
  · rw [g 5 (by decide), h5] at q; cases q
  · rw [u 5 (by decide)]; exact own_grown m5 hg d8
  · rw [onF_same] at q; cases q
  · rw [onF_same] at q; cases q
  · rw [upd_same]; exact ho
  · rw [g 13 (by decide), h13] at q; cases q
  · rw [g 15 (by decide)]; exact h15
/-- The first store. -/
theorem GwI.op13 (h : GwI e wr X8 X9 k usU usM vx vy pv f y V) (hf : f 13 = false) (a1 : f 1 = true) (a5 : f 5 = true) (a11 : f 11 = true) : GwI e wr X8 X9 k usU usM vx vy pv (onF f 13) y (V.setCell ⟨X8, 0, none⟩ (y 5)) := by
  have hb := h.b hf
  have h15 := h.s0 hf
  have m5 := h.m5 a5 hf
  have m11 := h.m11 a11 hf
  obtain ⟨a2, a4⟩ := h.o5 a5
  obtain ⟨a8, a10⟩ := h.o11 a11
  obtain ⟨-, a7⟩ := h.o8 a8
  have g : ∀ j, j ≠ 13 → onF f 13 j = f j := fun j hj => onF_ne hj
  refine ⟨fun j hj hfj => ?_, fun q => ?_, fun _ => ?_, fun _ => ?_, fun _ => ?_, fun _ q => ?_, fun _ q => ?_, fun _ q => ?_, fun _ q => ?_, fun _ q => ?_, fun _ q => ?_, fun _ => ⟨⟨onF_mono a1, onF_mono a5, onF_mono a7, onF_mono a11⟩, V, hb, m5, m11, ?_⟩, fun q => ?_⟩
  · have hj' := of_decide_eq_true hj
    exact h.p j hj (by rw [g _ (by omega)] at hfj; exact hfj)
  · rw [onF_same] at q; cases q
  · exact ⟨onF_mono a2, onF_mono a4⟩
  · exact ⟨onF_mono a5, onF_mono a7⟩
  · exact ⟨onF_mono a8, onF_mono a10⟩
  · rw [g 5 (by decide), a5] at q; cases q
  · rw [g 5 (by decide), a5] at q; cases q
  · rw [onF_same] at q; cases q
  · rw [g 11 (by decide), a11] at q; cases q
  · rw [g 11 (by decide), a11] at q; cases q
  · rw [onF_same] at q; cases q
  · rw [g 15 (by decide), h15, if_neg (by decide)]
  · rw [onF_same] at q; cases q
/-- The second store. -/
theorem GwI.op15 (h : GwI e wr X8 X9 k usU usM vx vy pv f y V) (hf : f 15 = false) (h13 : f 13 = true) : GwI e wr X8 X9 k usU usM vx vy pv (onF f 15) y (V.setCell ⟨X9, 0, none⟩ (y 11)) := by
  obtain ⟨⟨a1, a5, a7, a11⟩, V0, s1, s2, s3, s4⟩ := h.s h13
  obtain ⟨a2, a4⟩ := h.o5 a5
  obtain ⟨a8, a10⟩ := h.o11 a11
  have g : ∀ j, j ≠ 15 → onF f 15 j = f j := fun j hj => onF_ne hj
  rw [hf, if_neg (by decide)] at s4
  refine ⟨fun j hj hfj => ?_, fun q => ?_, fun _ => ?_, fun _ => ?_, fun _ => ?_, fun _ q => ?_, fun _ q => ?_, fun _ q => ?_, fun _ q => ?_, fun _ q => ?_, fun _ q => ?_, fun _ => ⟨⟨onF_mono a1, onF_mono a5, onF_mono a7, onF_mono a11⟩, V0, s1, s2, s3, ?_⟩, fun q => ?_⟩
  · have hj' := of_decide_eq_true hj
    exact h.p j hj (by rw [g _ (by omega)] at hfj; exact hfj)
  · rw [g 13 (by decide), h13] at q; cases q
  · exact ⟨onF_mono a2, onF_mono a4⟩
  · exact ⟨onF_mono a5, onF_mono a7⟩
  · exact ⟨onF_mono a8, onF_mono a10⟩
  · rw [g 5 (by decide), a5] at q; cases q
  · rw [g 5 (by decide), a5] at q; cases q
  · rw [g 13 (by decide), h13] at q; cases q
  · rw [g 11 (by decide), a11] at q; cases q
  · rw [g 11 (by decide), a11] at q; cases q
  · rw [g 13 (by decide), h13] at q; cases q
  · rw [onF_same, if_pos rfl, s4]
  · rw [g 13 (by decide), h13] at q; cases q
theorem GwI.start (hf : ∀ i, f i = false) : GwI e wr X8 X9 k usU usM vx vy pv f y wr := by
  refine ⟨fun i _ h => ?_, fun _ => Below.refl _ _, fun h => ?_, fun h => ?_, fun h => ?_, fun h => ?_, fun h => ?_, fun h => ?_, fun h => ?_, fun h => ?_, fun h => ?_, fun h => ?_, fun _ => hf 15⟩
  all_goals
    rw [hf] at h
    cases h
theorem flags_on {l : Array Bool} (hi : i < l.size) : (fun j => (l.setIfInBounds i true).getD j false) = onF (fun j => l.getD j false) i := by
  funext j
  rw [flag_set hi]
  unfold onF
  congr 1
  exact decide_eq_decide.2 ⟨fun e => e.symm, fun e => e.symm⟩
/-- A frame under a letter. -/
theorem wp_frame {P : Program} {c : Code} {Q : Exit → Act → World → Prop} {T : Array Value} {w : World} (h : ∀ T', T' = T → c.wp P Q ⟨T', []⟩ w) : c.wp P Q ⟨T, []⟩ w := h T rfl
end
end Go.Proofs.YtidlnecgfgnllaaDoor
end

section
/-
  Two annotations that grow set by set: what is kept. No function of the program is named here.
-/
namespace Go.Proofs.YtidlnecgfgnllaaDoor
open Go.RowKit

abbrev ptrL (g k : Nat) : Value := .pointer (some ⟨g, k, none⟩)
/-- Slices of these lists, which lie neither in block X8 nor in X9. -/
def Els (w : World) (X8 X9 : Nat) (us : List Value) (zss : List (List Int)) : Prop :=
  us.length = zss.length ∧ ∀ (i : Nat) (v : Value) (zs : List Int), us[i]? = some v → zss[i]? = some zs → ∃ (A : Option Addr) (c : Nat), v = .slice A zs.length c ∧ Lst w A zs.length zs ∧ (A = none → c = 0) ∧ Awy A zs X8 ∧ Awy A zs X9
section
variable {w w' : World} {X8 X9 k c : Nat} {us : List Value} {zss : List (List Int)} {A : Option Addr} {zs : List Int} {u u' : Value}
theorem Els.nil (w : World) (X8 X9 : Nat) : Els w X8 X9 [] [] := ⟨rfl, fun i v zs h => by cases h⟩
theorem Els.below (h : Els w X8 X9 us zss) (hb : Below w.heap.size w w') : Els w' X8 X9 us zss := ⟨h.1, fun i v zs h1 h2 => by obtain ⟨A, c, e, hl, r⟩ := h.2 i v zs h1 h2; exact ⟨A, c, e, hl.below hb, r⟩⟩
theorem Els.store (h : Els w X8 X9 us zss) (u u' : Value) : Els ((w.setCell ⟨X8, 0, none⟩ u).setCell ⟨X9, 0, none⟩ u') X8 X9 us zss :=
  ⟨h.1, fun i v zs h1 h2 => by obtain ⟨A, c, e, hl, hn, a8, a9⟩ := h.2 i v zs h1 h2; exact ⟨A, c, e, (hl.far a8 u).far a9 u', hn, a8, a9⟩⟩
theorem Els.snoc (h : Els w X8 X9 us zss) (hl : Lst w A zs.length zs) (hn : A = none → c = 0) (h8 : Awy A zs X8) (h9 : Awy A zs X9) : Els w X8 X9 (us ++ [.slice A zs.length c]) (zss ++ [zs]) := by
  refine ⟨by simp [h.1], fun i v ys h1 h2 => ?_⟩
  rcases Nat.lt_or_ge i us.length with q | q
  · rw [List.getElem?_append_left q] at h1
    rw [List.getElem?_append_left (by rw [← h.1]; exact q)] at h2
    exact h.2 i v ys h1 h2
  · rw [List.getElem?_append_right q] at h1
    rw [List.getElem?_append_right (by rw [← h.1]; exact q), ← h.1] at h2
    have h3 : i - us.length = 0 := by
      have := (List.getElem?_eq_some_iff.1 h1).1
      simp at this; omega
    rw [h3] at h1 h2
    injection h1 with h1
    injection h2 with h2
    subst h1 h2
    exact ⟨A, c, rfl, hl, hn, h8, h9⟩
theorem Els.one (h : Els w X8 X9 us zss) : ∀ u ∈ us, u.oneCell' = true := fun u hu => by
  obtain ⟨i, hi⟩ := List.mem_iff_getElem?.1 hu
  obtain ⟨A', c', e, -⟩ := h.2 i u _ hi (List.getElem?_eq_getElem (by rw [← h.1]; exact (List.getElem?_eq_some_iff.1 hi).1))
  rw [e]
  rfl
end
structure LwI (wc : World) (X8 X9 k : Nat) (vU vM : Value) (usU usM : List Value) (zU zM : List (List Int)) (wr : World) : Prop where
  r8 : Row wr X8 25 [vU]
  r9 : Row wr X9 25 [vM]
  oU : wr.ownsRow (wc.heap.size + 2) 42 1 vU k usU
  oM : wr.ownsRow (wc.heap.size + 2) 42 1 vM k usM
  eU : Els wr X8 X9 usU zU
  eM : Els wr X8 X9 usM zM
  b : Below wc.heap.size wc wr
  x8 : X8 = wc.heap.size
  x9 : X9 = wc.heap.size + 1
section
variable {wc wr w2 V0 : World} {X8 X9 k c c' n : Nat} {vU vM x5 x11 : Value} {usU usM : List Value} {zU zM : List (List Int)} {A A' : Option Addr} {zs ys : List Int}
theorem LwI.call (h : LwI wc X8 X9 k vU vM usU usM zU zM wr) (hb : Below wr.heap.size wr w2) : LwI wc X8 X9 k vU vM usU usM zU zM w2 :=
  ⟨h.r8.call hb, h.r9.call hb, own_below h.oU hb, own_below h.oM hb, h.eU.below hb, h.eM.below hb, below_call h.b hb, h.x8, h.x9⟩
theorem LwI.grown_ (h : LwI wc X8 X9 k vU vM usU usM zU zM wr) (hb : Below wr.heap.size wr V0) (o5 : V0.ownsRow wr.heap.size 42 1 x5 (k + 1) (usU ++ [.slice A zs.length c])) (o11 : V0.ownsRow wr.heap.size 42 1 x11 (k + 1) (usM ++ [.slice A' ys.length c']))
    (hl : Lst wr A zs.length zs) (hn : A = none → c = 0) (h8 : Awy A zs X8) (h9 : Awy A zs X9) (hl' : Lst wr A' ys.length ys) (hn' : A' = none → c' = 0) (h8' : Awy A' ys X8) (h9' : Awy A' ys X9) :
    LwI wc X8 X9 (k + 1) x5 x11 (usU ++ [.slice A zs.length c]) (usM ++ [.slice A' ys.length c']) (zU ++ [zs]) (zM ++ [ys]) ((V0.setCell ⟨X8, 0, none⟩ x5).setCell ⟨X9, 0, none⟩ x11) := by
  have h0 := h.call hb
  have hs : wc.heap.size + 2 ≤ wr.heap.size := by have := h.r9.lt; have := h.x9; omega
  have hne : X8 ≠ X9 := by have := h.x8; have := h.x9; omega
  have q8 := h0.r8.set_ 0 x5
  have q9 := h0.r9.far (p := ⟨X8, 0, none⟩) (fun e => hne e.symm) x5
  refine ⟨q8.far (p := ⟨X9, 0, none⟩) hne _, q9.set_ 0 _, ?_, ?_, ((h.eU.below hb).snoc (hl.below hb) hn h8 h9).store _ _, ((h.eM.below hb).snoc (hl'.below hb) hn' h8' h9').store _ _, (h0.b.setCell (p := ⟨X8, 0, none⟩) (by rw [h.x8]; exact Nat.le_refl _) _).setCell (p := ⟨X9, 0, none⟩) (by rw [h.x9]; exact Nat.le_succ _) _, h.x8, h.x9⟩
  · have := (own_lower o5 hs).kept (fgrown_set V0 X8 0 x5) (fown_apart (own_lower o5 hs) h0.r8 (by decide))
    exact this.kept (fgrown_set _ X9 0 x11) (fown_apart this q9 (by decide))
  · have := (own_lower o11 hs).kept (fgrown_set V0 X8 0 x5) (fown_apart (own_lower o11 hs) h0.r8 (by decide))
    exact this.kept (fgrown_set _ X9 0 x11) (fown_apart this q9 (by decide))
theorem els_ann {vU : Value} {base : Nat} (oU : wr.ownsRow base 42 1 vU k usU) (eU : Els wr X8 X9 usU zU) (hm : k ≤ 1048576) : ∃ A c, vU = .slice A k c ∧ Ann wr A k zU := by
  obtain ⟨A, c, rfl, -, -⟩ := own_form oU
  have hl : usU.length = k := by have := oU.1; omega
  refine ⟨A, c, rfl, by rw [← eU.1, hl], hm, usU, Sees.own oU, hl, fun i v zs h1 h2 => ?_⟩
  obtain ⟨A', c', e, q1, q2, -⟩ := eU.2 i v zs h1 h2
  exact ⟨A', c', e, q1, q2⟩
theorem unL_take {LA LB : List (List Int)} (h : k < LA.length) : (unL LA LB).take (k + 1) = (unL LA LB).take k ++ [unionL (LA.getD k []) (LB.getD k [])] := by
  have hl : k < (unL LA LB).length := by simp [unL, h]
  rw [List.take_succ_eq_append_getElem hl]
  congr 2
  have := unL_get (B := LB) h
  rwa [List.getD_eq_getElem?_getD, List.getElem?_eq_getElem hl] at this
theorem meL_take {LA LB : List (List Int)} (h : k < LA.length) : (meL LA LB).take (k + 1) = (meL LA LB).take k ++ [meetL (LA.getD k []) (LB.getD k [])] := by
  have hl : k < (meL LA LB).length := by simp [meL, h]
  rw [List.take_succ_eq_append_getElem hl]
  congr 2
  have := meL_get (B := LB) h
  rwa [List.getD_eq_getElem?_getD, List.getElem?_eq_getElem hl] at this
theorem lf0 {X : Nat} {w : World} : (Instr.fieldAt 25 (ptrL X 0) 0).run Tryd.prog w = .ok (ptrL X 0) w := by kernel_rfl
theorem lld {X : Nat} {w : World} {v : Value} (h : w.cell? ⟨X, 0, none⟩ = some v) : (Instr.loadAt 23 (ptrL X 0)).run Tryd.prog w = .ok v w := by
  have h1 : (isAgg 23).run Tryd.prog w = .ok false w := by kernel_rfl
  simp [Instr.loadAt, Instr.sureAddr, loadVar, h1, h]
end
end Go.Proofs.YtidlnecgfgnllaaDoor
end

section
/-
  Single operations over a frame that is a letter: an address, a load, a move, a literal of one slice, an append, a store. No function of the program is named here.
-/
namespace Go.Proofs.YtidlnecgfgnllaaDoor
open Go.RowKit

abbrev FrL (T : Array Value) (y : Nat → Value) : Act := ⟨updN 56 T y 14, []⟩
section
variable {o : Oper} {T : Array Value} {y : Nat → Value} {V : World} {K : Act → World → Prop} {Q : Exit → Act → World → Prop} {t j X : Nat} {v : Value}
theorem frl_put (hj : j < 14) (v : Value) : (FrL T y).put (some (56 + j)) v = FrL T (upd y j v) := updN_put hj
theorem frl_at (hj : j < 14) (hT : T.size = 92) : (FrL T y).eval (.tmp (56 + j)) = y j := by
  have := updN_eval (D := 56) (n := 14) (k := 56 + j) (T := T) (y := y) (by omega) (by omega) (by omega)
  rwa [show 56 + j - 56 = j by omega] at this
theorem frl_out (ht : t < 56) {u : Value} (h : (⟨T, []⟩ : Act).eval (.tmp t) = u) : (FrL T y).eval (.tmp t) = u := (updN_out (Or.inl ht)).trans h
theorem lop_fa (ho : o.op = .fieldAddr 25 (.tmp t) 0) (hd : o.dst = some (56 + j)) (hj : j < 14) (hu : (FrL T y).eval (.tmp t) = ptrL X 0) (hK : K (FrL T (upd y j (ptrL X 0))) V) : o.wp Tryd.prog (FrL T y) V K Q := by
  refine op_value (v := ptrL X 0) (w' := V) ?_ (by rw [hd, frl_put hj]; exact hK)
  simp [execOp, ho, hu, lf0, Result.andThen]
theorem lop_mv (ho : o.op = .move (.tmp t)) (hd : o.dst = some (56 + j)) (hj : j < 14) (hu : (FrL T y).eval (.tmp t) = v) (hK : K (FrL T (upd y j v)) V) : o.wp Tryd.prog (FrL T y) V K Q := by
  refine op_value (v := v) (w' := V) ?_ (by rw [hd, frl_put hj]; exact hK)
  simp [execOp, ho, hu]
theorem lop_ld (ho : o.op = .load 23 (.tmp t)) (hd : o.dst = some (56 + j)) (hj : j < 14) (hu : (FrL T y).eval (.tmp t) = ptrL X 0) (hc : V.cell? ⟨X, 0, none⟩ = some v) (hK : K (FrL T (upd y j v)) V) : o.wp Tryd.prog (FrL T y) V K Q := by
  refine op_value (v := v) (w' := V) ?_ (by rw [hd, frl_put hj]; exact hK)
  simp [execOp, ho, hu, lld hc, Result.andThen]
theorem lit_wp {a : Act} {A : Option Addr} {n c : Nat} (ho : o.op = .buildSlice 23 1 #[(0, .tmp t)]) (hu : a.eval (.tmp t) = .slice A n c) (hK : K (a.put o.dst (.slice (some ⟨V.heap.size, 0, none⟩) 1 1)) (V.alloc (.cells #[.slice A n c] 42))) : o.wp Tryd.prog a V K Q := by
  refine op_value ?_ hK
  have e : (Array.map (fun x => (x.fst, a.eval x.snd)) #[(0, Operand.tmp t)]) = #[(0, .slice A n c)] := by simp [hu]
  have h1 : (Instr.buildSlice 23 1 #[(0, .slice A n c)]).run Tryd.prog V = .ok (.slice (some ⟨V.heap.size, 0, none⟩) 1 1) (V.alloc (.cells #[.slice A n c] 42)) := by kernel_rfl
  simp only [execOp, ho, e]
  simp [h1, Result.andThen]
theorem st_wp {a : Act} {k c : Nat} {A : Option Addr} {u : Value} {s : Nat} (ho : o.op = .store 23 (.tmp t) (.tmp s)) (hd : o.dst = none) (hu : a.eval (.tmp t) = ptrL X 0) (hs : a.eval (.tmp s) = v) (hr : Row V X 25 [u]) (hv : v = .slice A k c) (hK : K a (V.setCell ⟨X, 0, none⟩ v)) : o.wp Tryd.prog a V K Q := by
  have hc := hr.cell (k := 0) rfl
  have hf := hr.free 0
  subst hv
  have hz : (sizeOf 23).run Tryd.prog V = .ok 1 V := by kernel_rfl
  have h1 : (Instr.storeAt 23 (ptrL X 0) (.slice A k c)).run Tryd.prog V = .ok () (V.setCell ⟨X, 0, none⟩ (.slice A k c)) := by
    simp [Instr.storeAt, Instr.sureAddr, storeVar, hz, Result.andThen, go_sem, hc, hf]
  refine op_skip (w' := V.setCell ⟨X, 0, none⟩ (.slice A k c)) ?_ (by rw [hd]; exact hK)
  simp only [execOp, ho, hu, hs]
  simp [h1, Result.andThen]
theorem lop_lit {A : Option Addr} {n c : Nat} (ho : o.op = .buildSlice 23 1 #[(0, .tmp t)]) (hd : o.dst = some (56 + j)) (hj : j < 14) (hu : (FrL T y).eval (.tmp t) = .slice A n c) (hK : K (FrL T (upd y j (.slice (some ⟨V.heap.size, 0, none⟩) 1 1))) (V.alloc (.cells #[.slice A n c] 42))) : o.wp Tryd.prog (FrL T y) V K Q :=
  lit_wp ho hu (by rw [hd, frl_put hj]; exact hK)
theorem lop_app {s x : Operand} {base n m c B : Nat} {A : Option Addr} {xs news : List Value} (ho : o.op = .call { callee := .builtin .append, args := #[s, x], argTypes := #[23, 23] }) (hd : o.dst = some (56 + j)) (hj : j < 14)
    (hs : (FrL T y).eval s = v) (hown : V.ownsRow base 42 1 v n xs) (hx : (FrL T y).eval x = .slice A m c) (hA : A = none → c = 0) (hl : news.length = m) (hsee : Sees V B A news) (hmc : m ≤ c) (h1 : ∀ u ∈ news, u.oneCell' = true) (hn : n + m ≤ 1048576) (hbase : base ≤ V.heap.size)
    (h : ∀ v' V', V'.ownsRow base 42 1 v' (n + m) (xs ++ news) → V.grownBy V' v.ownBlock → K (FrL T (upd y j v')) V') : o.wp Tryd.prog (FrL T y) V K Q := by
  obtain ⟨j0, ji, jz0, jz1, jz2⟩ := info_parts infoS
  refine wp_append_seesN s x 23 ho base 42 j0 (.slice none 0 0) 1 24 Tryd.underlying23 ji jz0 jz1 jz2 rfl (by decide) v n xs hs hown B A m c news hx (hide hA) (hide (by omega)) (hide hsee) (hide hmc) h1 (by unfold maxLen; omega) (by omega) hbase ?_
  intro v' V' ho' hg'
  rw [hd, frl_put hj]
  exact h v' V' ho' hg'
end
end Go.Proofs.YtidlnecgfgnllaaDoor
end

section
/-
  The contract of the reference's meet on lists of ints. Condition: at most 2^40 ints.
-/
namespace Go.Proofs.YtidlnecgfgnllaaDoor
open Go.RowKit
set_option maxHeartbeats 1000000 in
theorem rmeet_any (A : Option Addr) (n c : Nat) (zs : List Int) (A' : Option Addr) (n' c' : Nat) (ys : List Int) (w : World) (h : Hid (Lst w A n zs)) (h' : Hid (Lst w A' n' ys)) (hm : n ≤ 1099511627776) :
    Calls Tryd.prog 21 #[.slice A n c, .slice A' n' c'] w (OutPost (meetL zs ys) w) := by
  obtain ⟨i0, hi, hz0, hz1, hz2⟩ := info_parts infoI
  have HR := hide (show meetL zs ys = zs.filter (fun z => decide (z ∈ ys)) from rfl)
  rw [HR.out]
  obtain ⟨p, ep⟩ : ∃ p : Int → Bool, p = fun z => decide (z ∈ ys) := ⟨_, rfl⟩
  rw [← ep]
  have HP := hide (fun z => congrFun ep z)
  clear ep HR
  go_enter Tryd.func21, Tryd.ntmps21
  go_wp2_with fail
  go_loopw [5, 6] (fun v i wr => Hid (FilRel w p zs n v i wr)) (fun _ i _ => n - (intOf i).toNat)
  case atStart => exact hide ⟨0, [], by omega, rfl, by simp, IntRel.start w w (Below.refl _ _)⟩
  case round =>
    obtain ⟨k, l, hk, rfl, hlf, hL⟩ := hrel.out
    have HL := hide hL
    have hll : l.length ≤ k := FilRel.len hlf
    have HF := hide hlf
    have hs : wr.heap.size ≥ w.heap.size := hL.2.size
    clear hrel hL hlf
    by_cases hlt : k < n
    · have l1 : k < zs.length := by have := h.out.len; omega
      obtain ⟨b1, o1, rfl, _, hc0⟩ := int_at h.out.see l1
      have hc1 := keep_cellB HL.out.2 hc0
      have HK := hide (take_snoc l1)
      generalize zs[k] = y at hc0 hc1 HK
      have ho := HL.out.1
      have HPy := hide (HP.out y)
      have N1 := hide (fun hy : p y = true => (show l ++ [y] = (zs.take (k + 1)).filter p by rw [HK.out, filter_snoc, if_pos hy, HF.out]))
      have N2 := hide (fun hy : p y = false => (show l = (zs.take (k + 1)).filter p by rw [HK.out, filter_snoc, if_neg (by rw [hy]; simp), HF.out]))
      clear l1 hc0
      have ch := rhas_any A' n' c' ys y wr (hide (h'.out.below HL.out.2))
      cases hv : hasB ys y with
      | true =>
        have HV := hide hv
        clear hv
        have HY := hide (N1.out (by rw [HPy.out, show decide (y ∈ ys) = hasB ys y from rfl, HV.out]; try rfl))
        rw [HV.out] at ch
        clear N1 N2
        go_wp2_with fail
        refine ch.mono ?_
        rintro e w' ⟨rfl, rfl⟩
        clear ch
        go_wp2_with (at_builtin; refine wpList_append_own _ rfl (.tmp 19) (.tmp 24) 42 rfl w.heap.size 3 i0 (.int .i64 0) 1 8 Tryd.underlying42 hi hz0 hz1 hz2 rfl (by decide) _ l.length (cellsI l) rfl (ho.alloc _) ⟨wr.heap.size, 0, none⟩ 1 1 [.int .i64 y] rfl rfl (one_new _ _ _) (one_cell _) (by unfold maxLen; omega) (by omega) (by simp; omega) ?_)
        intro v' w4 ho4 hg4 _
        have R : Hid (FilRel w p zs n v' (.int .i64 ((k : Int) + 1)) w4) := hide ⟨k + 1, l ++ [y], by omega, by go_num, HY.out, IntRel.step HL ho4 hg4⟩
        clear ho4 hg4 ho hc1
        go_wp2_with fail
        go_roundw
        case rel => exact R
        case measure => simp [intOf]; omega
      | false =>
        have HV := hide hv
        clear hv
        have HY := hide (N2.out (by rw [HPy.out, show decide (y ∈ ys) = hasB ys y from rfl, HV.out]; try rfl))
        rw [HV.out] at ch
        clear N1 N2 ho
        go_wp2_with fail
        refine ch.mono ?_
        rintro e w' ⟨rfl, rfl⟩
        clear ch
        go_wp2_with fail
        go_roundw
        case rel => exact hide ⟨k + 1, l, by omega, by go_num, HY.out, HL.out⟩
        case measure => simp [intOf]; omega
    · obtain rfl : k = n := by omega
      have HK := hide (show l = zs.filter p by rw [HF.out, List.take_of_length_le (by have := h.out.len; omega)])
      obtain ⟨A2, c2, rfl, hA, hP⟩ := HL.out.out
      have HP2 := hide hP
      clear hA hP
      go_wp2_with fail
      go_ret
      rw [← HK.out]
      exact HP2.out
section
variable {A A' : Option Addr} {n n' : Nat} {a b r : List Int} {w : World}
theorem s_meet (c c' : Nat) (h : Hid (Lst w A n a)) (h' : Hid (Lst w A' n' b)) (ha : Hid (Asc a)) (hr : Hid (meetL a b = r)) : Calls Tryd.prog 21 #[.slice A n c, .slice A' n' c'] w (OutPost r w) := by
  have := rmeet_any A n c a A' n' c' b w h h' (by have := few h ha; omega)
  rwa [hr.out] at this
end
end Go.Proofs.YtidlnecgfgnllaaDoor
end

section
/-
  The walk of the law LivecheckIsALattice: for all codes it returns true, and what was in memory before the call is as it was. Conditions: those of the types; the table of TrailingZeros64 lies as its initialiser lays it.
-/
namespace Go.Proofs.YtidlnecgfgnllaaDoor
open Go.RowKit

/-- What the operations that only read give. -/
def PV (X8 : Nat) (vU vM vx vy : Value) (i : Nat) : Value := if i = 0 ∨ i = 12 then ptrL X8 0 else if i = 1 then vU else if i = 3 then vx else if i = 6 ∨ i = 14 then ptrL (X8 + 1) 0 else if i = 7 then vM else vy
set_option maxRecDepth 100000 in
set_option maxHeartbeats 8000000 in
theorem lllaw_walk (A0 : Option Addr) (n0 c0 : Nat) (zs : List Int) (w : World)
    (hA : Hid (A0 = none → c0 = 0)) (hn : Hid (zs.length = n0)) (hnc : n0 ≤ c0) (hm : n0 ≤ 9223372036854775807) (hs : Hid (Sees w w.heap.size A0 (cellsU8 zs))) (hz : Hid (∀ z ∈ zs, 0 ≤ z ∧ z ≤ 255)) (hT : Hid (Tab w)) :
    Calls Tryd.prog 6 #[.slice A0 n0 c0] w fun e w' => e = .returned (.bool true) ∧ Below w.heap.size w w' := by
  obtain ⟨j0, ji, jz0, jz1, jz2⟩ := info_parts infoS
  go_enter Tryd.func6, Tryd.ntmps6
  go_wp2_with fail
  refine (awake17_any w hT).mono ?_
  rintro e w1 ⟨rfl, hb1⟩
  have HB1 := hide hb1
  have HS1 := hide ((hs.out.below hb1).more hb1.size)
  clear hb1
  go_wp2_with fail
  refine (scene17_any A0 n0 c0 zs w1 hA hn hnc hm HS1 hz).mono ?_
  rintro e w2 ⟨P, A1, n1, c1, A2, n2, c2, f, N, AL, nL, cL, L, g, lo, rfl, hH, hE, hF, hO, hCd, hgl, hwg, hb2⟩
  obtain ⟨W, hW⟩ : ∃ V, (w2.alloc (.cells #[.int .i64 P, .slice A1 n1 c1, .slice A2 n2 c2] 30)).alloc (.cells #[.slice AL nL cL] 25) = V := ⟨_, rfl⟩
  have hb3 : Below w2.heap.size w2 W := by rw [← hW]; exact below2 _ _ _
  obtain ⟨B, hB⟩ : ∃ B, w2.heap.size = B := ⟨_, rfl⟩
  have HBB := hide hB
  have RB := hide (show Row W B 30 [.int .i64 P, .slice A1 n1 c1, .slice A2 n2 c2] by rw [← hW, ← hB]; exact (Row.new w2 _ _).alloc _)
  have RL := hide (show Row W (B + 1) 25 [.slice AL nL cL] by rw [← hW, ← hB]; exact (Row.new _ _ _).at_ (by simp))
  have HCd := hide (show CdAt W A2 n2 f.code from (hH.calls hb3).cd (fnE_zero.1 hE).1)
  have hs1 : f.slots.length = n1 := hH.l1
  have hn6 : n1 ≤ 6 := by omega
  have h1 : 1 ≤ n2 := by have h := flow_one hE; have h2 : f.code.length = n2 := hH.l2; omega
  have HOK := hide (show LvOk f.code n1 by rw [← hs1]; exact lv_ok hE (by omega))
  have hlen := HCd.out.len
  have hn2 := HCd.out.few
  have HOL := hide (hO.ann.below hb3)
  have HW := hide hW
  have HB3 := hide (below_call (below_call HB1.out hb2) hb3)
  have HT3 := hide (hT.out.below HB3.out)
  have HH := hide (hH.calls hb3)
  have HC := hide (hCd.below hb3)
  have HGL := hide hgl
  have hfl : f.code.length ≤ 1024 := (fnE_zero.1 hE).1
  have hgB : g < B := by have := hCd.lt; omega
  have hwg' : w.heap.size ≤ g := by have := HB1.out.size; omega
  have hBW : B + 2 = W.heap.size := by rw [← hW, ← hB]; simp
  clear hW hb3 hb2 hO hCd hH hB hE hwg hgl HS1 hF HB1
  go_upto_region 4 with (fail)
  rw [HW.out, HBB.out]
  clear HW HBB RL HOL HCd
  have LV := hide (fun (V : World) (hG : W.grownBy V (some g)) (hC : Codes V g) => lives_any (P := P) (A1 := A1) (c1 := c1) (c2 := c2) V (hide ((HH.out.grow hG HGL.out).cd hfl)) HOK (hide hC) h1)
  have q0 := fun (w' : World) (hb : W.grownBy w' (some g)) => (row_gr RB.out hb hgB).cell (k := 0) rfl
  have q1 := fun (w' : World) (hb : W.grownBy w' (some g)) => (row_gr RB.out hb hgB).cell (k := 1) rfl
  have q2 := fun (w' : World) (hb : W.grownBy w' (some g)) => (row_gr RB.out hb hgB).cell (k := 2) rfl
  have bw0 : W.grownBy W.drew (some g) := gl_dr (World.grownBy.refl _ _)
  have c0' : Codes W g := HC.out
  go_cut [6, 7] (fun s6 s7 wx => TwoL W g n2 n1 f.code s6 s7 wx)
  case first =>
    go_region_held3 (fun V => W.grownBy V (some g))
      (first | exact bw0 | assumption | (repeat (first | assumption | exact World.grownBy.refl _ _ | refine gl_dr ?_ | refine gl_al ?_ _ | refine gl_st ?_ (by omega) _ _)))
      (first
        | (have k0 := c0'; clear k0; go_at_call 19; with_reducible refine Calls.mono (LV.out _ (by assumption) (by repeat (first | exact c0' | refine cd_dr ?_ | refine cd_al ?_ _))) ?_; intro e w5 h5; unfold LivPost at h5; obtain ⟨LA, gA, cA, va, pa, rfl, hLA, hAA, oA, c5, b5⟩ := h5; have bb5 : W.grownBy w5 (some g) := World.grownBy.trans (by assumption) b5; have OA := hide (oA.lower (World.grownBy.size (w := W) (row := some g) (by assumption))); have PA := hide (And.intro hLA hAA); (try have ra0 := tl_a0 b5 (by omega)); (try have ra0 := (tl_a1 b5 (by omega)).1); (try have ra1 := (tl_a1 b5 (by omega)).2); (try have la0 := ra0.lt); (try have la1 := ra1.lt); have hs5 := World.grownBy.size bb5; clear c0' hLA hAA oA b5)
        | (go_at_call 19; with_reducible refine Calls.mono (LV.out _ (by assumption) (by repeat (first | exact c5 | refine cd_dr ?_ | refine cd_al ?_ _))) ?_; intro e w6 h6; unfold LivPost at h6; obtain ⟨LB, gB, cB, vb, pb, rfl, hLB, hAB, oB, c6, b6⟩ := h6; have bb56 : w5.grownBy w6 (some g) := (by first | exact b6 | exact World.grownBy.trans (World.grownBy_alloc w5 _ _) b6 | exact World.grownBy.trans (gl_al (World.grownBy_alloc w5 _ _) _) b6); have bb6 : W.grownBy w6 (some g) := World.grownBy.trans bb5 bb56; have OB := hide (oB.lower (World.grownBy.size (w := W) (row := some g) (by assumption))); have PB := hide (And.intro hLB hAB); have OA6 := hide (OA.out.grown bb56 (by omega)); (try have rc0 := row_gr ra0 bb56 (by omega)); (try have rc1 := row_gr ra1 bb56 (by omega)); (try have rb0 : Row w6 w5.heap.size 25 [.slice none 0 0] := (by first | exact row_gr (V := (w5.alloc (.cells #[.slice none 0 0] 25))) (Row.new w5 _ _) b6 (by omega) | exact row_gr (V := ((w5.alloc (.cells #[.slice none 0 0] 25)).alloc (.cells #[.slice none 0 0] 25))) ((Row.new w5 _ _).alloc _) b6 (by omega))); (try have rb1 : Row w6 (w5.heap.size + 1) 25 [.slice none 0 0] := row_gr (V := ((w5.alloc (.cells #[.slice none 0 0] 25)).alloc (.cells #[.slice none 0 0] 25))) (Row.at_ (Row.new (w5.alloc (.cells #[.slice none 0 0] 25)) _ _) (by simp)) b6 (by omega)); (try have lb0 := rb0.lt); (try have lb1 := rb1.lt); have hs6 := World.grownBy.size bb6; have hs56 := World.grownBy.size bb56; (try have k_rc0 := rc0.cell (k := 0) rfl); (try have f_rc0 := rc0.free 0); (try have q_rc0 := fun o => (rc0.alloc o).cell (k := 0) rfl); (try have g_rc0 := fun o => (rc0.alloc o).free 0); (try have l_rc0 := rc0.lt); (try have k_rc1 := rc1.cell (k := 0) rfl); (try have f_rc1 := rc1.free 0); (try have q_rc1 := fun o => (rc1.alloc o).cell (k := 0) rfl); (try have g_rc1 := fun o => (rc1.alloc o).free 0); (try have l_rc1 := rc1.lt); (try have k_rb0 := rb0.cell (k := 0) rfl); (try have f_rb0 := rb0.free 0); (try have q_rb0 := fun o => (rb0.alloc o).cell (k := 0) rfl); (try have g_rb0 := fun o => (rb0.alloc o).free 0); (try have l_rb0 := rb0.lt); (try have k_rb1 := rb1.cell (k := 0) rfl); (try have f_rb1 := rb1.free 0); (try have q_rb1 := fun o => (rb1.alloc o).cell (k := 0) rfl); (try have g_rb1 := fun o => (rb1.alloc o).free 0); (try have l_rb1 := rb1.lt); (try have : ¬ (W.heap.size = w5.heap.size) := by omega); (try have : ¬ (w5.heap.size = W.heap.size) := by omega); (try have : ¬ (W.heap.size = w6.heap.size) := by omega); (try have : ¬ (w6.heap.size = W.heap.size) := by omega); (try have : ¬ (w5.heap.size = w6.heap.size) := by omega); (try have : ¬ (w6.heap.size = w5.heap.size) := by omega); clear hLB hAB oB b6))
    all_goals
      go_wp2_with fail
      go_meet
      first
        | exact tl_fin (cA := cA) (cB := cB) (n2 := n2) OA6.out OB.out PA.out PB.out bb6 rc0 rc1 (by omega) (by omega) (by omega)
        | exact tl_fin (cA := cA) (cB := cB) (n2 := n2) OA6.out OB.out PA.out PB.out bb6 rc1 rc0 (by omega) (by omega) (by omega)
        | exact tl_fin (cA := cA) (cB := cB) (n2 := n2) OA6.out OB.out PA.out PB.out bb6 rc0 rb0 (by omega) (by omega) (by omega)
        | exact tl_fin (cA := cA) (cB := cB) (n2 := n2) OA6.out OB.out PA.out PB.out bb6 rb0 rc0 (by omega) (by omega) (by omega)
        | exact tl_fin (cA := cA) (cB := cB) (n2 := n2) OA6.out OB.out PA.out PB.out bb6 rb0 rb1 (by omega) (by omega) (by omega)
        | exact tl_fin (cA := cA) (cB := cB) (n2 := n2) OA6.out OB.out PA.out PB.out bb6 rb1 rb0 (by omega) (by omega) (by omega)
        | exact tl_s1 OA6.out OB.out PA.out PB.out bb6
        | exact tl_s2 OA6.out OB.out PA.out PB.out bb6
        | exact tl_s3 OA6.out OB.out PA.out PB.out bb6 rc0 (by omega)
        | exact tl_s3 OA6.out OB.out PA.out PB.out bb6 rb0 (by omega)
        | exact tl_s4 OA6.out OB.out PA.out PB.out bb6 rc0 (by omega)
        | exact tl_s4 OA6.out OB.out PA.out PB.out bb6 rb0 (by omega)
  case rest =>
    obtain ⟨X6, X7, gA, cA, gB, cB, va, pa, vb, pb, LA, LB, rfl, rfl, r6, r7, oA, oB, ⟨hIA, hCA⟩, ⟨hIB, hCB⟩, hG⟩ := hcut
    have HOA := hide (okL_iff.2 ⟨by rw [hlen]; exact hIA, hCA.2⟩ : okL f.code n1 LA = true)
    have HOB := hide (okL_iff.2 ⟨by rw [hlen]; exact hIB, hCB.2⟩ : okL f.code n1 LB = true)
    have HOU := hide (ok_un HOK.out HOA.out HOB.out)
    have HOM := hide (ok_me HOK.out HOA.out HOB.out)
    have HBc := hide (below_grown HB3.out hG hwg' HB3.out.size)
    have RBc := hide (row_gr RB.out hG hgB)
    have HCc := hide ((HH.out.grow hG HGL.out).cd hfl)
    have HTc := hide (hT.out.below HBc.out)
    have AA := hide (oA.ann hIA.len (by omega))
    have AB := hide (oB.ann hIB.len (by omega))
    have R6 := hide r6
    have R7 := hide r7
    have HIA := hide hIA
    have HIB := hide hIB
    have hAl : LA.length = n2 := hIA.len
    have hBl : LB.length = n2 := hIB.len
    have HUT := hide (fun (k : Nat) (h : k < LA.length) => unL_take (LB := LB) h)
    have HMT := hide (fun (k : Nat) (h : k < LA.length) => meL_take (LB := LB) h)
    have hUl : (unL LA LB).length = n2 := by simp [unL, hAl]
    have hMl : (meL LA LB).length = n2 := by simp [meL, hAl]
    obtain ⟨U, hU⟩ : ∃ U, unL LA LB = U := ⟨_, rfl⟩
    obtain ⟨Mm, hMm⟩ : ∃ U, meL LA LB = U := ⟨_, rfl⟩
    rw [hU] at HOU HUT hUl
    rw [hMm] at HOM HMT hMl
    obtain ⟨W5, hW5⟩ : ∃ V, (wc.alloc (.cells #[.slice none 0 0] 25)).alloc (.cells #[.slice none 0 0] 25) = V := ⟨_, rfl⟩
    obtain ⟨X8, hX8⟩ : ∃ X, wc.heap.size = X := ⟨_, rfl⟩
    have hb5 : Below wc.heap.size wc W5 := by rw [← hW5]; exact below2 _ _ _
    have I5 := hide (show LwI wc X8 (X8 + 1) 0 (.slice none 0 0) (.slice none 0 0) [] [] (U.take 0) (Mm.take 0) W5 from
      ⟨by rw [← hW5, ← hX8]; exact (Row.new wc _ _).alloc _, by rw [← hW5, ← hX8]; exact (Row.new _ _ _).at_ (by simp), World.ownsRow_nil _ _ _ _, World.ownsRow_nil _ _ _ _, Els.nil _ _ _, Els.nil _ _ _, hb5, hX8.symm, by rw [hX8]⟩)
    have HW5 := hide hW5
    have HX8 := hide hX8
    clear hU hMm hW5 hX8 hb5 r6 r7 oA oB hIA hIB hCA hCB hG q0 q1 q2 bw0 c0' LV RB HB3 HH HC hT HT3
    go_upto_region 6 with (fail)
    rw [HX8.out, HW5.out]
    clear HX8 HW5
    go_wp2_with fail
    go_loopw [10, 11, 12] (fun s10 _ _ wr => ∃ (k : Nat) (vU vM : Value) (usU usM : List Value), s10 = .int .i64 (k : Int) ∧ k ≤ n2 ∧ Hid (LwI wc X8 (X8 + 1) k vU vM usU usM (U.take k) (Mm.take k) wr)) (fun s10 _ _ _ => n2 - (intOf s10).toNat)
    case atStart => exact ⟨0, _, _, _, _, rfl, by omega, I5⟩
    case round =>
      obtain ⟨k, vU, vM, usU, usM, rfl, hk, hI⟩ := hrel
      clear I5
      have qf := (RBc.out.call hI.out.b).cell (k := 2) rfl
      by_cases hlt : k < n2
      · have hk0 : (0 : Int) ≤ (k : Int) := by omega
        have hkn : (k : Int) < (n2 : Int) := by omega
        obtain ⟨b1, o1, Aa, ca, he1, -, y1, hl1, hn1⟩ := (AA.out.below hI.out.b).at_ hlt
        injection he1 with he1
        injection he1 with he1 he1'
        subst he1 he1'
        obtain ⟨b2, o2, Ab, cb, he2, -, y2, hl2, hn2'⟩ := (AB.out.below hI.out.b).at_ hlt
        injection he2 with he2
        injection he2 with he2 he2'
        subst he2 he2'
        have HAA := hide (HIA.out.asc k)
        have HAB := hide (HIB.out.asc k)
        have HUK := hide (HUT.out k (by omega))
        have HMK := hide (HMT.out k (by omega))
        obtain ⟨za, hza⟩ : ∃ z, LA.getD k [] = z := ⟨_, rfl⟩
        obtain ⟨zb, hzb⟩ : ∃ z, LB.getD k [] = z := ⟨_, rfl⟩
        rw [hza] at y1 hl1 HAA HUK HMK
        rw [hzb] at y2 hl2 HAB HUK HMK
        rw [Nat.zero_add] at y1 y2
        have CU := hide (fun (V : World) (hb : Below wr.heap.size wr V) => (s_union ca cb (hide (hl1.below hb)) (hide (hl2.below hb)) (hide hn1) HAA HAB (hide rfl) : Calls Tryd.prog 20 #[.slice Aa za.length ca, .slice Ab zb.length cb] V (OutPost (unionL za zb) V)))
        have CM := hide (fun (V : World) (hb : Below wr.heap.size wr V) => (s_meet ca cb (hide (hl1.below hb)) (hide (hl2.below hb)) HAA (hide rfl) : Calls Tryd.prog 21 #[.slice Aa za.length ca, .slice Ab zb.length cb] V (OutPost (meetL za zb) V)))
        have HUA := hide (unionL_asc (b := zb) HAA.out)
        have HMA := hide (show Asc (meetL za zb) from filter_asc _ HAA.out)
        obtain ⟨zu, hzu⟩ : ∃ z, unionL za zb = z := ⟨_, rfl⟩
        obtain ⟨zm, hzm⟩ : ∃ z, meetL za zb = z := ⟨_, rfl⟩
        rw [hzu] at CU HUA HUK
        rw [hzm] at CM HMA HMK
        have q0 := fun (V : World) (hb : Below wr.heap.size wr V) => (R6.out.call (below_call hI.out.b hb)).cell (k := 0) rfl
        have q1 := fun (V : World) (hb : Below wr.heap.size wr V) => (R7.out.call (below_call hI.out.b hb)).cell (k := 0) rfl
        have q2 := fun (V : World) (hb : Below wr.heap.size wr V) => keep_cellB hb y1
        have q3 := fun (V : World) (hb : Below wr.heap.size wr V) => keep_cellB hb y2
        have bw0 : Below wr.heap.size wr wr.drew := (Below.refl _ _).drew
        have hx8 : X8 + 1 < wr.heap.size := hI.out.r9.lt
        clear hza hzb hzu hzm y1 y2 hl1 hl2 hn1 hn2'
        go_upto_region 9 with (fail)
        clear qf
        go_cut [11, 12] (fun s11 s12 wx => ∃ (A7 : Option Addr) (c7 : Nat) (A8 : Option Addr) (c8 : Nat), s11 = .slice A7 zu.length c7 ∧ s12 = .slice A8 zm.length c8 ∧ Hid (Lst wx A7 zu.length zu) ∧ Hid (A7 = none → c7 = 0) ∧ Hid (∀ g, g < wr.heap.size → Awy A7 zu g) ∧ Hid (Lst wx A8 zm.length zm) ∧ Hid (A8 = none → c8 = 0) ∧ Hid (∀ g, g < wr.heap.size → Awy A8 zm g) ∧ Hid (Below wr.heap.size wr wx))
        case first =>
          go_region_held3 (fun V => Below wr.heap.size wr V) (first | exact bw0 | exact bb)
            (first
              | (have k0 := bw0; clear k0; go_at_call 20; with_reducible refine Calls.mono (CU.out _ bw0) ?_; intro e w7 h7; obtain ⟨A7, c7, rfl, HL7, HN7, HY7, hb7⟩ := OutPost.openA h7 HUA; have bb := below_call bw0 hb7; have HY7' := hide (fun g (hg : g < wr.heap.size) => HY7.out g (Nat.lt_of_lt_of_le hg bw0.size)); clear h7 hb7 HY7 CU)
              | (have k0 := bb; clear k0; go_at_call 21; with_reducible refine Calls.mono (CM.out _ bb) ?_; intro e w8 h8; obtain ⟨A8, c8, rfl, HL8, HN8, HY8, hb8⟩ := OutPost.openA h8 HMA; have HL7' := hide (HL7.out.below hb8); have HY8' := hide (fun g (hg : g < wr.heap.size) => HY8.out g (Nat.lt_of_lt_of_le hg bb.size)); have bb := below_call bb hb8; clear h8 hb8 HY8 CM))
          all_goals
            have BZ := hide bb
            clear bb q0 q1 q2 q3 bw0
            go_wp2_with fail
            go_meet
            exact ⟨A7, c7, A8, c8, rfl, rfl, HL7', HN7, HY7', HL8, HN8, HY8', BZ⟩
        case rest =>
          obtain ⟨A7, c7, A8, c8, rfl, rfl, HL7, HN7, HY7, HL8, HN8, HY8, BZ⟩ := hcut
          clear CU CM q0 q1 q2 q3 bw0 HUA HMA
          have I9 := hide (hI.out.call BZ.out)
          have HX8 := hide (HY7.out X8 (by omega))
          have HX9 := hide (HY7.out (X8 + 1) (by omega))
          have HX8' := hide (HY8.out X8 (by omega))
          have HX9' := hide (HY8.out (X8 + 1) (by omega))
          clear hI HY7 HY8 BZ
          obtain ⟨AU, cU, rfl, hAU, hcU, -, hseU⟩ := own_seen I9.out.oU
          obtain ⟨AM, cM, rfl, hAM, hcM, -, hseM⟩ := own_seen I9.out.oM
          have hlU : usU.length = k := by have := I9.out.oU.1; omega
          have hlM : usM.length = k := by have := I9.out.oM.1; omega
          go_upto_region 10 with (fail)
          refine wp_frame (fun T hT => ?_)
          have e8 : (⟨T, []⟩ : Act).eval (.tmp 8) = ptrL X8 0 := by rw [hT]; rfl
          have e9 : (⟨T, []⟩ : Act).eval (.tmp 9) = ptrL (X8 + 1) 0 := by rw [hT]; rfl
          have e11 : (⟨T, []⟩ : Act).eval (.tmp 11) = .slice A7 zu.length c7 := by rw [hT]; rfl
          have e12 : (⟨T, []⟩ : Act).eval (.tmp 12) = .slice A8 zm.length c8 := by rw [hT]; rfl
          have hTs : T.size = 92 := by rw [hT]; rfl
          have HT := hide hT
          clear hT
          have r8 := I9.out.r8.call (Below.refl _ _).drew
          have r9 := I9.out.r9.call (Below.refl _ _).drew
          have seU := hide (fun (V : World) (hb : Below wc.drew.heap.size wc.drew V) => ((hseU.draw).below hb).more hb.size)
          have seM := hide (fun (V : World) (hb : Below wc.drew.heap.size wc.drew V) => ((hseM.draw).below hb).more hb.size)
          have oneU := hide I9.out.eU.one
          have oneM := hide I9.out.eM.one
          refine wp_region_inv (by kernel_rfl) (fun l a V => l.size = 16 ∧ ∃ y, a = ⟨updN 56 T y 14, []⟩ ∧ GwI 42 wc.drew X8 (X8 + 1) k usU usM (.slice A7 zu.length c7) (.slice A8 zm.length c8) (PV X8 (.slice AU k cU) (.slice AM k cM) (.slice A7 zu.length c7) (.slice A8 zm.length c8)) (fun j => l.getD j false) y V) ?_ ?_ ?_
          · refine ⟨rfl, fun j => T.getD (56 + j) undef, by rw [updN_start], GwI.start (fun i => ?_)⟩
            simp [Array.getD_eq_getD_getElem?, Array.getElem?_replicate]
            split <;> rfl
          · rintro l a V ⟨hls, y, rfl, hG⟩ i hi K hK
            have hlt : i < 16 := ready_lt hi
            obtain ⟨hf', o, ho, ha⟩ := ready_of hi
            clear hi
            have hf : l.getD i false = false := by rw [← flag_two (by omega)]; exact hf'
            have hKi : ∀ (y' : Nat → Value) (V' : World), GwI 42 wc.drew X8 (X8 + 1) k usU usM (.slice A7 zu.length c7) (.slice A8 zm.length c8) (PV X8 (.slice AU k cU) (.slice AM k cM) (.slice A7 zu.length c7) (.slice A8 zm.length c8)) (onF (fun j => l.getD j false) i) y' V' → K (FrL T y') V' := fun y' V' hh => hK _ _ ⟨by simpa using hls, y', rfl, by rw [flags_on (by omega)]; exact hh⟩
            have u8 : (FrL T y).eval (.tmp 8) = ptrL X8 0 := frl_out (by decide) e8
            have u9 : (FrL T y).eval (.tmp 9) = ptrL (X8 + 1) 0 := frl_out (by decide) e9
            have u11 : (FrL T y).eval (.tmp 11) = .slice A7 zu.length c7 := frl_out (by decide) e11
            have u12 : (FrL T y).eval (.tmp 12) = .slice A8 zm.length c8 := frl_out (by decide) e12
            have ue : ∀ j, j < 14 → (FrL T y).eval (.tmp (56 + j)) = y j := fun j hj => frl_at hj hTs
            clear hK
            rcases (show i = 0 ∨ i = 1 ∨ i = 2 ∨ i = 3 ∨ i = 4 ∨ i = 5 ∨ i = 6 ∨ i = 7 ∨ i = 8 ∨ i = 9 ∨ i = 10 ∨ i = 11 ∨ i = 12 ∨ i = 13 ∨ i = 14 ∨ i = 15 by omega) with rfl | rfl | rfl | rfl | rfl | rfl | rfl | rfl | rfl | rfl | rfl | rfl | rfl | rfl | rfl | rfl
            · have h1' : o.op = .fieldAddr 25 (.tmp 8) 0 := (congrArg Oper.op (Option.some.inj ho)).symm
              have h2' : o.dst = some 56 := (congrArg Oper.dst (Option.some.inj ho)).symm
              have h3' : o.guard = none := (congrArg Oper.guard (Option.some.inj ho)).symm
              have hp := hG.pureAt 0 0 (ptrL X8 0) rfl hf rfl rfl
              exact wpOp_plain ho h3' (lop_fa (j := 0) h1' h2' (by decide) u8 (hKi _ _ hp))
            · have h1' : o.op = .load 23 (.tmp 56) := (congrArg Oper.op (Option.some.inj ho)).symm
              have h2' : o.dst = some 57 := (congrArg Oper.dst (Option.some.inj ho)).symm
              have h3' : o.guard = none := (congrArg Oper.guard (Option.some.inj ho)).symm
              rw [← Option.some.inj ho] at ha
              simp [Region.binds] at ha
              have d0 : l.getD 0 false = true := by simp [ha]
              have q : (FrL T y).eval (.tmp 56) = ptrL X8 0 := (ue 0 (by decide)).trans (hG.p 0 rfl d0)
              have hc := keep_cellB (hG.b (hG.low (j := 1) (by decide) hf).1) (r8.cell (k := 0) rfl)
              have hp := hG.pureAt 1 1 (.slice AU k cU) rfl hf rfl rfl
              exact wpOp_plain ho h3' (lop_ld (j := 1) h1' h2' (by decide) q hc (hKi _ _ hp))
            · have h1' : o.op = .call { callee := .builtin .append, args := #[.const (.slice none 0 0), .tmp 57], argTypes := #[23, 23] } := (congrArg Oper.op (Option.some.inj ho)).symm
              have h2' : o.dst = some 58 := (congrArg Oper.dst (Option.some.inj ho)).symm
              have h3' : o.guard = none := (congrArg Oper.guard (Option.some.inj ho)).symm
              rw [← Option.some.inj ho] at ha
              simp [Region.binds] at ha
              have d1 : l.getD 1 false = true := by simp [ha]
              have q : (FrL T y).eval (.tmp 57) = .slice AU k cU := (ue 1 (by decide)).trans (hG.p 1 rfl d1)
              have hb := hG.b (hG.low (j := 2) (by decide) hf).1
              refine wpOp_plain ho h3' (lop_app (j := 2) (s := .const (.slice none 0 0)) (x := .tmp 57) h1' h2' (by decide) (v := .slice none 0 0) rfl (World.ownsRow_nil V V.heap.size _ _) q hAU hlU (seU.out V hb) hcU oneU.out (by omega) (Nat.le_refl _) ?_)
              intro v' V' ho' hg'
              rw [Nat.zero_add, List.nil_append] at ho'
              exact hKi _ _ (hG.op2 hf  hg' ho')
            · have h1' : o.op = .move (.tmp 11) := (congrArg Oper.op (Option.some.inj ho)).symm
              have h2' : o.dst = some 59 := (congrArg Oper.dst (Option.some.inj ho)).symm
              have h3' : o.guard = none := (congrArg Oper.guard (Option.some.inj ho)).symm
              have hp := hG.pureAt 3 3 (.slice A7 zu.length c7) rfl hf rfl rfl
              exact wpOp_plain ho h3' (lop_mv (j := 3) h1' h2' (by decide) u11 (hKi _ _ hp))
            · have h1' : o.op = .buildSlice 23 1 #[(0, .tmp 59)] := (congrArg Oper.op (Option.some.inj ho)).symm
              have h2' : o.dst = some 60 := (congrArg Oper.dst (Option.some.inj ho)).symm
              have h3' : o.guard = none := (congrArg Oper.guard (Option.some.inj ho)).symm
              rw [← Option.some.inj ho] at ha
              simp [Region.binds] at ha
              have d3 : l.getD 3 false = true := by simp [ha]
              have q : (FrL T y).eval (.tmp 59) = .slice A7 zu.length c7 := (ue 3 (by decide)).trans (hG.p 3 rfl d3)
              exact wpOp_plain ho h3' (lop_lit (j := 4) h1' h2' (by decide) q (hKi _ _ (hG.op4 hf)))
            · have h1' : o.op = .call { callee := .builtin .append, args := #[.tmp 58, .tmp 60], argTypes := #[23, 23] } := (congrArg Oper.op (Option.some.inj ho)).symm
              have h2' : o.dst = some 61 := (congrArg Oper.dst (Option.some.inj ho)).symm
              have h3' : o.guard = none := (congrArg Oper.guard (Option.some.inj ho)).symm
              rw [← Option.some.inj ho] at ha
              simp [Region.binds] at ha
              have d2 : l.getD 2 false = true := by simp [ha]
              have d4 : l.getD 4 false = true := by simp [ha]
              obtain ⟨m2, dd⟩ := hG.m2 d2 hf
              obtain ⟨bl, hbl, hsl⟩ := (hG.m4 d4 hf).sees
              have q : (FrL T y).eval (.tmp 60) = .slice (some ⟨bl, 0, none⟩) 1 1 := (ue 4 (by decide)).trans hbl
              have hb := hG.b (hG.low (j := 5) (by decide) hf).1
              refine wpOp_plain ho h3' (lop_app (j := 5) (s := .tmp 58) (x := .tmp 60) h1' h2' (by decide) (ue 2 (by decide)) m2 q (fun e => by cases e) rfl hsl (Nat.le_refl _) (fun u hu => by rw [List.mem_singleton.1 hu]; rfl) (by omega) hb.size ?_)
              intro v' V' ho' hg'
              exact hKi _ _ (hG.op5 hf d2 d4 hg' ho')
            · have h1' : o.op = .fieldAddr 25 (.tmp 9) 0 := (congrArg Oper.op (Option.some.inj ho)).symm
              have h2' : o.dst = some 62 := (congrArg Oper.dst (Option.some.inj ho)).symm
              have h3' : o.guard = none := (congrArg Oper.guard (Option.some.inj ho)).symm
              have hp := hG.pureAt 6 6 (ptrL (X8 + 1) 0) rfl hf rfl rfl
              exact wpOp_plain ho h3' (lop_fa (j := 6) h1' h2' (by decide) u9 (hKi _ _ hp))
            · have h1' : o.op = .load 23 (.tmp 62) := (congrArg Oper.op (Option.some.inj ho)).symm
              have h2' : o.dst = some 63 := (congrArg Oper.dst (Option.some.inj ho)).symm
              have h3' : o.guard = none := (congrArg Oper.guard (Option.some.inj ho)).symm
              rw [← Option.some.inj ho] at ha
              simp [Region.binds] at ha
              have d6 : l.getD 6 false = true := by simp [ha]
              have q : (FrL T y).eval (.tmp 62) = ptrL (X8 + 1) 0 := (ue 6 (by decide)).trans (hG.p 6 rfl d6)
              have hc := keep_cellB (hG.b (hG.low (j := 7) (by decide) hf).1) (r9.cell (k := 0) rfl)
              have hp := hG.pureAt 7 7 (.slice AM k cM) rfl hf rfl rfl
              exact wpOp_plain ho h3' (lop_ld (j := 7) h1' h2' (by decide) q hc (hKi _ _ hp))
            · have h1' : o.op = .call { callee := .builtin .append, args := #[.const (.slice none 0 0), .tmp 63], argTypes := #[23, 23] } := (congrArg Oper.op (Option.some.inj ho)).symm
              have h2' : o.dst = some 64 := (congrArg Oper.dst (Option.some.inj ho)).symm
              have h3' : o.guard = none := (congrArg Oper.guard (Option.some.inj ho)).symm
              rw [← Option.some.inj ho] at ha
              simp [Region.binds] at ha
              have d7 : l.getD 7 false = true := by simp [ha]
              have d5 : l.getD 5 false = true := by simp [ha]
              have q : (FrL T y).eval (.tmp 63) = .slice AM k cM := (ue 7 (by decide)).trans (hG.p 7 rfl d7)
              have hb := hG.b (hG.low (j := 8) (by decide) hf).1
              refine wpOp_plain ho h3' (lop_app (j := 8) (s := .const (.slice none 0 0)) (x := .tmp 63) h1' h2' (by decide) (v := .slice none 0 0) rfl (World.ownsRow_nil V V.heap.size _ _) q hAM hlM (seM.out V hb) hcM oneM.out (by omega) (Nat.le_refl _) ?_)
              intro v' V' ho' hg'
              rw [Nat.zero_add, List.nil_append] at ho'
              exact hKi _ _ (hG.op8 hf d7 d5 hg' ho')
            · have h1' : o.op = .move (.tmp 12) := (congrArg Oper.op (Option.some.inj ho)).symm
              have h2' : o.dst = some 65 := (congrArg Oper.dst (Option.some.inj ho)).symm
              have h3' : o.guard = none := (congrArg Oper.guard (Option.some.inj ho)).symm
              have hp := hG.pureAt 9 9 (.slice A8 zm.length c8) rfl hf rfl rfl
              exact wpOp_plain ho h3' (lop_mv (j := 9) h1' h2' (by decide) u12 (hKi _ _ hp))
            · have h1' : o.op = .buildSlice 23 1 #[(0, .tmp 65)] := (congrArg Oper.op (Option.some.inj ho)).symm
              have h2' : o.dst = some 66 := (congrArg Oper.dst (Option.some.inj ho)).symm
              have h3' : o.guard = none := (congrArg Oper.guard (Option.some.inj ho)).symm
              rw [← Option.some.inj ho] at ha
              simp [Region.binds] at ha
              have d9 : l.getD 9 false = true := by simp [ha]
              have q : (FrL T y).eval (.tmp 65) = .slice A8 zm.length c8 := (ue 9 (by decide)).trans (hG.p 9 rfl d9)
              exact wpOp_plain ho h3' (lop_lit (j := 10) h1' h2' (by decide) q (hKi _ _ (hG.op10 hf)))
            · have h1' : o.op = .call { callee := .builtin .append, args := #[.tmp 64, .tmp 66], argTypes := #[23, 23] } := (congrArg Oper.op (Option.some.inj ho)).symm
              have h2' : o.dst = some 67 := (congrArg Oper.dst (Option.some.inj ho)).symm
              have h3' : o.guard = none := (congrArg Oper.guard (Option.some.inj ho)).symm
              rw [← Option.some.inj ho] at ha
              simp [Region.binds] at ha
              have d8 : l.getD 8 false = true := by simp [ha]
              have d10 : l.getD 10 false = true := by simp [ha]
              obtain ⟨m2, dd⟩ := hG.m8 d8 hf
              obtain ⟨bl, hbl, hsl⟩ := (hG.m10 d10 hf).sees
              have q : (FrL T y).eval (.tmp 66) = .slice (some ⟨bl, 0, none⟩) 1 1 := (ue 10 (by decide)).trans hbl
              have hb := hG.b (hG.low (j := 11) (by decide) hf).1
              refine wpOp_plain ho h3' (lop_app (j := 11) (s := .tmp 64) (x := .tmp 66) h1' h2' (by decide) (ue 8 (by decide)) m2 q (fun e => by cases e) rfl hsl (Nat.le_refl _) (fun u hu => by rw [List.mem_singleton.1 hu]; rfl) (by omega) hb.size ?_)
              intro v' V' ho' hg'
              exact hKi _ _ (hG.op11 hf d8 d10 hg' ho')
            · have h1' : o.op = .fieldAddr 25 (.tmp 8) 0 := (congrArg Oper.op (Option.some.inj ho)).symm
              have h2' : o.dst = some 68 := (congrArg Oper.dst (Option.some.inj ho)).symm
              have h3' : o.guard = none := (congrArg Oper.guard (Option.some.inj ho)).symm
              have hp := hG.pureAt 12 12 (ptrL X8 0) rfl hf rfl rfl
              exact wpOp_plain ho h3' (lop_fa (j := 12) h1' h2' (by decide) u8 (hKi _ _ hp))
            · have h1' : o.op = .store 23 (.tmp 68) (.tmp 61) := (congrArg Oper.op (Option.some.inj ho)).symm
              have h2' : o.dst = none := (congrArg Oper.dst (Option.some.inj ho)).symm
              have h3' : o.guard = none := (congrArg Oper.guard (Option.some.inj ho)).symm
              rw [← Option.some.inj ho] at ha
              simp [Region.binds] at ha
              have d1 : l.getD 1 false = true := by simp [ha]
              have d5 : l.getD 5 false = true := by simp [ha]
              have d11 : l.getD 11 false = true := by simp [ha]
              have d12 : l.getD 12 false = true := by simp [ha]
              have q : (FrL T y).eval (.tmp 68) = ptrL X8 0 := (ue 12 (by decide)).trans (hG.p 12 rfl d12)
              have hrow := r8.call (hG.b hf)
              obtain ⟨A5, c5, h5, -, -⟩ := own_form (hG.m5 d5 hf)
              exact wpOp_plain ho h3' (st_wp (t := 68) (s := 61) h1' h2' q (ue 5 (by decide)) hrow h5 (hKi _ _ (hG.op13 hf d1 d5 d11)))
            · have h1' : o.op = .fieldAddr 25 (.tmp 9) 0 := (congrArg Oper.op (Option.some.inj ho)).symm
              have h2' : o.dst = some 69 := (congrArg Oper.dst (Option.some.inj ho)).symm
              have h3' : o.guard = none := (congrArg Oper.guard (Option.some.inj ho)).symm
              have hp := hG.pureAt 14 13 (ptrL (X8 + 1) 0) rfl hf rfl rfl
              exact wpOp_plain ho h3' (lop_fa (j := 13) h1' h2' (by decide) u9 (hKi _ _ hp))
            · have h1' : o.op = .store 23 (.tmp 69) (.tmp 67) := (congrArg Oper.op (Option.some.inj ho)).symm
              have h2' : o.dst = none := (congrArg Oper.dst (Option.some.inj ho)).symm
              have h3' : o.guard = none := (congrArg Oper.guard (Option.some.inj ho)).symm
              rw [← Option.some.inj ho] at ha
              simp [Region.binds] at ha
              have d13 : l.getD 13 false = true := by simp [ha]
              have d14 : l.getD 14 false = true := by simp [ha]
              obtain ⟨hall, V0, s1, s2, s3, s4⟩ := hG.s d13
              have q : (FrL T y).eval (.tmp 69) = ptrL (X8 + 1) 0 := (ue 13 (by decide)).trans (hG.p 14 rfl d14)
              have hrow : Row V (X8 + 1) 25 [.slice AM k cM] := by
                rw [s4, hf, if_neg (by decide)]
                exact (r9.call s1).far (p := ⟨X8, 0, none⟩) (by simp) _
              obtain ⟨A5, c5, h5, -, -⟩ := own_form s3
              exact wpOp_plain ho h3' (st_wp (t := 69) (s := 67) h1' h2' q (ue 11 (by decide)) hrow h5 (hKi _ _ (hG.op15 hf d13)))
          · rintro l a V ⟨hls, y, rfl, hG⟩ hr
            have t0 := ready_done hr (i := 0) (by rw [hls]; decide) rfl (by simp [Region.binds])
            have f0 : l[0]?.getD false = true := by simpa using t0
            have t1 := ready_done hr (i := 1) (by rw [hls]; decide) rfl (by simp [Region.binds, f0])
            have f1 : l[1]?.getD false = true := by simpa using t1
            have t2 := ready_done hr (i := 2) (by rw [hls]; decide) rfl (by simp [Region.binds, f1])
            have f2 : l[2]?.getD false = true := by simpa using t2
            have t3 := ready_done hr (i := 3) (by rw [hls]; decide) rfl (by simp [Region.binds])
            have f3 : l[3]?.getD false = true := by simpa using t3
            have t4 := ready_done hr (i := 4) (by rw [hls]; decide) rfl (by simp [Region.binds, f3])
            have f4 : l[4]?.getD false = true := by simpa using t4
            have t5 := ready_done hr (i := 5) (by rw [hls]; decide) rfl (by simp [Region.binds, f2, f4])
            have f5 : l[5]?.getD false = true := by simpa using t5
            have t6 := ready_done hr (i := 6) (by rw [hls]; decide) rfl (by simp [Region.binds])
            have f6 : l[6]?.getD false = true := by simpa using t6
            have t7 := ready_done hr (i := 7) (by rw [hls]; decide) rfl (by simp [Region.binds, f6])
            have f7 : l[7]?.getD false = true := by simpa using t7
            have t8 := ready_done hr (i := 8) (by rw [hls]; decide) rfl (by simp [Region.binds, f7, f5])
            have f8 : l[8]?.getD false = true := by simpa using t8
            have t9 := ready_done hr (i := 9) (by rw [hls]; decide) rfl (by simp [Region.binds])
            have f9 : l[9]?.getD false = true := by simpa using t9
            have t10 := ready_done hr (i := 10) (by rw [hls]; decide) rfl (by simp [Region.binds, f9])
            have f10 : l[10]?.getD false = true := by simpa using t10
            have t11 := ready_done hr (i := 11) (by rw [hls]; decide) rfl (by simp [Region.binds, f8, f10])
            have f11 : l[11]?.getD false = true := by simpa using t11
            have t12 := ready_done hr (i := 12) (by rw [hls]; decide) rfl (by simp [Region.binds, f0, f1, f2, f3, f4, f5, f6, f7, f8, f9, f10, f11])
            have f12 : l[12]?.getD false = true := by simpa using t12
            have t13 := ready_done hr (i := 13) (by rw [hls]; decide) rfl (by simp [Region.binds, f0, f1, f2, f3, f4, f5, f6, f7, f8, f9, f10, f11, f12])
            have f13 : l[13]?.getD false = true := by simpa using t13
            have t14 := ready_done hr (i := 14) (by rw [hls]; decide) rfl (by simp [Region.binds, f0, f1, f2, f3, f4, f5, f6, f7, f8, f9, f10, f11, f12, f13])
            have f14 : l[14]?.getD false = true := by simpa using t14
            have t15 := ready_done hr (i := 15) (by rw [hls]; decide) rfl (by simp [Region.binds, f0, f1, f2, f3, f4, f5, f6, f7, f8, f9, f10, f11, f12, f13, f14])
            have f15 : l[15]?.getD false = true := by simpa using t15
            obtain ⟨-, V0, s1, s2, s3, s4⟩ := hG.s t13
            rw [if_pos t15] at s4
            have I10 := hide (I9.out.grown_ (below_call (Below.refl _ _).drew s1) s2 s3 HL7.out HN7.out HX8.out HX9.out HL8.out HN8.out HX8'.out HX9'.out)
            rw [← s4, ← HUK.out, ← HMK.out] at I10
            clear hr hls hG s1 s2 s3 s4 t0 f0 t1 f1 t2 f2 t3 f3 t4 f4 t5 f5 t6 f6 t7 f7 t8 f8 t9 f9 t10 f10 t11 f11 t12 f12 t13 f13 t14 f14 t15 f15
            obtain ⟨y5, hy5⟩ : ∃ v, y 5 = v := ⟨_, rfl⟩
            obtain ⟨y11, hy11⟩ : ∃ v, y 11 = v := ⟨_, rfl⟩
            rw [hy5, hy11] at I10
            clear hy5 hy11 I9 r8 r9 seU seM oneU oneM hseU hseM hAU hAM hcU hcM e8 e9 e11 e12 hTs HL7 HL8 HN7 HN8 HX8 HX9 HX8' HX9' HUK HMK
            have HU : updN 56 T y 14 = ((((((((((((((T.setIfInBounds 56 (y 0)).setIfInBounds 57 (y 1)).setIfInBounds 58 (y 2)).setIfInBounds 59 (y 3)).setIfInBounds 60 (y 4)).setIfInBounds 61 (y 5)).setIfInBounds 62 (y 6)).setIfInBounds 63 (y 7)).setIfInBounds 64 (y 8)).setIfInBounds 65 (y 9)).setIfInBounds 66 (y 10)).setIfInBounds 67 (y 11)).setIfInBounds 68 (y 12)).setIfInBounds 69 (y 13)) := rfl
            rw [HU, HT.out]
            clear HU HT
            simp only [List.setIfInBounds_toArray, List.set_cons_succ, List.set_cons_zero]
            go_wp2_with fail
            go_roundw
            case rel => exact ⟨k + 1, _, _, _, _, by go_num, by omega, I10⟩
            case measure => simp [intOf]; omega
      · obtain rfl : k = n2 := by omega
        have hkn : ¬ ((k : Int) < (k : Int)) := by omega
        obtain ⟨AU, cU, rfl, hAU⟩ := els_ann hI.out.oU hI.out.eU (by omega)
        obtain ⟨AM, cM, rfl, hAM⟩ := els_ann hI.out.oM hI.out.eM (by omega)
        rw [List.take_of_length_le (by omega)] at hAU hAM
        have D1 := hide (fun (V : World) (hb : Below wr.heap.size wr V) => lcheck_any (P := P) (A1 := A1) (n1 := n1) (c1 := c1) (c2 := c2) (cL := cA) V (hide (HCc.out.below (below_call hI.out.b hb))) HOK (hide (AA.out.below (below_call hI.out.b hb))) (hide (HTc.out.below (below_call hI.out.b hb))))
        have D2 := hide (fun (V : World) (hb : Below wr.heap.size wr V) => lcheck_any (P := P) (A1 := A1) (n1 := n1) (c1 := c1) (c2 := c2) (cL := cB) V (hide (HCc.out.below (below_call hI.out.b hb))) HOK (hide (AB.out.below (below_call hI.out.b hb))) (hide (HTc.out.below (below_call hI.out.b hb))))
        have D3 := hide (fun (V : World) (hb : Below wr.heap.size wr V) => lcheck_any (P := P) (A1 := A1) (n1 := n1) (c1 := c1) (c2 := c2) (cL := cU) V (hide (HCc.out.below (below_call hI.out.b hb))) HOK (hide (hAU.below hb)) (hide (HTc.out.below (below_call hI.out.b hb))))
        have D4 := hide (fun (V : World) (hb : Below wr.heap.size wr V) => lcheck_any (P := P) (A1 := A1) (n1 := n1) (c1 := c1) (c2 := c2) (cL := cM) V (hide (HCc.out.below (below_call hI.out.b hb))) HOK (hide (hAM.below hb)) (hide (HTc.out.below (below_call hI.out.b hb))))
        rw [HOA.out, if_pos rfl] at D1
        rw [HOB.out, if_pos rfl] at D2
        rw [HOU.out, if_pos rfl] at D3
        rw [HOM.out, if_pos rfl] at D4
        have HRR := hide (fun (V : World) (hb : Below wr.heap.size wr V) => (RBc.out.call (below_call hI.out.b hb)))
        have HR6 := hide (fun (V : World) (hb : Below wr.heap.size wr V) => (R6.out.call (below_call hI.out.b hb)))
        have HR7 := hide (fun (V : World) (hb : Below wr.heap.size wr V) => (R7.out.call (below_call hI.out.b hb)))
        have HR8 := hide (fun (V : World) (hb : Below wr.heap.size wr V) => (hI.out.r8.call hb))
        have HR9 := hide (fun (V : World) (hb : Below wr.heap.size wr V) => (hI.out.r9.call hb))
        have HBF := hide (below_call HBc.out hI.out.b)
        have B0 := hide (Below.refl wr.heap.size wr)
        have d := D1.out wr B0.out
        have q0 := (HRR.out wr B0.out).cell (k := 0) rfl
        have q1 := (HRR.out wr B0.out).cell (k := 1) rfl
        have q3 := (HR6.out wr B0.out).cell (k := 0) rfl
        clear hAU hAM hI
        go_wp2_with fail
        refine d.mono ?_
        rintro e w20 ⟨rfl, hb0⟩
        have B1 := hide (below_call B0.out hb0)
        have d := D2.out w20 B1.out
        clear hb0 B0 q0 q1 qf q3
        have q0 := (HRR.out w20 B1.out).cell (k := 0) rfl
        have q1 := (HRR.out w20 B1.out).cell (k := 1) rfl
        have q2 := (HRR.out w20 B1.out).cell (k := 2) rfl
        have q3 := (HR7.out w20 B1.out).cell (k := 0) rfl
        go_wp2_with fail
        refine d.mono ?_
        rintro e w21 ⟨rfl, hb1⟩
        have B2 := hide (below_call B1.out hb1)
        have d := D3.out w21 B2.out
        clear hb1 B1 q0 q1 q2 q3
        have q0 := (HRR.out w21 B2.out).cell (k := 0) rfl
        have q1 := (HRR.out w21 B2.out).cell (k := 1) rfl
        have q2 := (HRR.out w21 B2.out).cell (k := 2) rfl
        have q3 := (HR8.out w21 B2.out).cell (k := 0) rfl
        go_wp2_with fail
        refine d.mono ?_
        rintro e w22 ⟨rfl, hb2⟩
        have B3 := hide (below_call B2.out hb2)
        have d := D4.out w22 B3.out
        clear hb2 B2 q0 q1 q2 q3
        have q0 := (HRR.out w22 B3.out).cell (k := 0) rfl
        have q1 := (HRR.out w22 B3.out).cell (k := 1) rfl
        have q2 := (HRR.out w22 B3.out).cell (k := 2) rfl
        have q3 := (HR9.out w22 B3.out).cell (k := 0) rfl
        go_wp2_with fail
        refine d.mono ?_
        rintro e w30 ⟨rfl, hb9⟩
        have HF := hide (below_call HBF.out (below_call B3.out hb9))
        clear hb9 B3 q0 q1 q2 q3
        go_wp2_with fail
        go_ret
        exact ⟨rfl, HF.out⟩
end Go.Proofs.YtidlnecgfgnllaaDoor
end

section
/-
  LivecheckIsALattice: for every input the law returns true, and each argument reads behind the call as it did before, where the listed table lies as its initialiser lays it; the card ties that table to the program's text. No other condition: every input that the row speaks of.
-/
namespace Go.Proofs.YtidlnecgfgnllaaDoor
open Go.ChangeShapes Go.WideShapes Go.ChangeAt Go.RowKit

namespace rowLivecheckIsALattice
set_option maxRecDepth 100000 in
theorem contract (H : Type) (enc : TypeId × Value → H) (W : World) (base : Nat) (args : Array Value) (ds gs : List (DataW H)) (before : List MemPlace)
    (hval : ∀ (j : Nat) t v, Tryd.f6.params[j]? = some t → args[j]? = some v → Value.okWide Tryd.prog W .any base t v)
    (hW : DataW.Whole enc Tryd.prog Tryd.f6.params.toList Rows.livecheckIsALatticeSpec.vars false W args.toList ds gs before) (hL : laidMetH Tryd.prog laidOne W) :
    Calls Tryd.prog 6 args W fun e W' => ∃ v, e = .returned v ∧ Rows.livecheckIsALatticeSpec.post enc Tryd.prog Tryd.f6 false true false false W args v W' := by
  have hW' := hW
  obtain ⟨p, q, hA, hV, rfl, hfz, hnd⟩ := hW
  have hA : DataW.TrodAll enc Tryd.prog W 0 (fun _ => true) true Tryd.f6.params.toList args.toList ds p := hA
  rw [Tryd.params6] at hA hval
  obtain ⟨v0, vs0, d0, ds0, p0, q0, hargs, rfl, rfl, h0, r0⟩ := trodAll_cons hA
  obtain ⟨rfl, rfl, rfl⟩ := trodAll_nil r0
  obtain rfl : args = #[v0] := by cases args; simp_all
  obtain ⟨A0, n0, c0, zs0, rfl, hA0, hn0, hm0, hs0, hz0, hc0⟩ := open_u8s Tryd.underlying22 Tryd.underlying5 cells_u8 (hval 0 22 v0 rfl rfl) h0
  refine (lllaw_walk A0 n0 c0 zs0 W (hide hA0) (hide hn0) hc0 hm0 (hide hs0) (hide hz0) (hide (tab_of_laid hL))).mono fun e W' ⟨he, hB⟩ => ⟨_, he, ?_⟩
  exact law_post laid_out (by decide +kernel) rfl rfl Tryd.underlying4 rfl hW' hB

set_option maxRecDepth 100000 in
theorem lifted (os : Os) (started : os.Started) (H : Type) (enc : TypeId × Value → H) :
    ReturnsInHanded {} Tryd.checked os 6 .any (fun w args => (Rows.livecheckIsALatticeSpec.pre enc Tryd.prog Tryd.f6 [] false w args ∧ laidMetH Tryd.prog laidOne w) ∧ sizedMet enc Tryd.prog Tryd.f6 (OpenSpec.ofChange Rows.livecheckIsALatticeSpec) false w args)
      (Rows.livecheckIsALatticeSpec.post enc Tryd.prog Tryd.f6 false true false false) := by
  refine returnsInHanded_of_change_and (C := Tryd.checked) (X := fun w _ => laidMetH Tryd.prog laidOne w) (fun _ _ _ hh h => h.of_heap hh) own_knob started (by kernel_rfl) Tryd.func6
    (ChangeSpec.witness_shaped (enc := enc) (C := Tryd.checked) (os := os) (X := fun w _ => laidMetH Tryd.prog laidOne w) false (World.doorLaid Tryd.prog 400 os) #[.slice none 0 0] 8 rfl (World.shaped_of_RefB (by kernel_rfl) (by kernel_rfl)) (by kernel_rfl) (by kernel_rfl) (by kernel_rfl) (door_met os _)) ?_
  intro W base args ds gs before hval hW _ _ hL _
  exact contract H enc W base args ds gs before hval hW hL

theorem row : Rows.LivecheckIsALatticeSaid :=
  OpenClaim.holds_of_wide 6 Tryd.f6 rfl rfl rfl rfl rfl rfl rfl ⟨rfl, rfl, rfl, rfl, rfl⟩ rfl rfl rfl rfl rfl (by kernel_rfl) Tryd.func6 (by kernel_rfl)
    (of_decide_eq_true (by kernel_rfl)) (by unfold Func.isWrapper; first | (rw [if_pos (by decide +kernel)]; kernel_rfl) | (rw [if_neg (by decide +kernel)]; exact ⟨rfl, rfl⟩))
    (fun os started H enc _ => lifted os started H enc)

theorem proved : Rows.LivecheckIsALatticeCardSaid :=
  Claim7.holds_tied_plain_at .later [] [.data] true (true, "dd5303d2fabf194ae77c69ad4ecf4317e4e9b93fddf7bcec66bf13a547e9b8b2") false
    row (fun _ h => by cases h) (by kernel_rfl) (fun _ h => by cases h) livecheckIsALattice_row_tie rfl ⟨rfl, rfl⟩ (by kernel_rfl) rfl
    (fun f fn hf hfn => by
      obtain rfl : f = 6 := Option.some.inj ((show Tryd.prog.funcNamed "spillframe/spillframelaw17.LivecheckIsALattice" = some 6 by kernel_rfl).symm.trans hf) |>.symm
      obtain rfl : fn = Tryd.f6 := (Option.some.inj (Tryd.func6.symm.trans hfn)).symm
      exact ⟨by kernel_rfl, fun j t ht => by
        rw [Tryd.params6] at ht
        have hm : t ∈ [22] := by simpa using Array.mem_of_getElem? ht
        have hall : ([22].all fun u => !Tryd.prog.wantsStandIn u) = true := by kernel_rfl
        exact (show Tryd.prog.wantsStandIn t = false by simpa using List.all_eq_true.1 hall t hm)⟩)
    (by kernel_rfl)
end rowLivecheckIsALattice
end Go.Proofs.YtidlnecgfgnllaaDoor
end
