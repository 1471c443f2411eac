import Derived.Test.YtipjeihfhnilcaaDoorMPset
import Derived.Test.YtipjeihfhnilcaaDoorMZshf
import Derived.Test.YtipjeihfhnilcaaDoorMDfn
import Derived.Test.YtipjeihfhnilcaaDoorMEpw
import Derived.Test.YtipjeihfhnilcaaDoorMKit
import Derived.Maps.Range
import Derived.Laws.StructEq
import Derived.WalkKit
set_option linter.unusedVariables false
set_option linter.unusedSimpArgs false
section
/-
  The contracts of the reference's Replace (chapter 21) and Only (chapter 31): a program with one function replaced, its heads in a row of the call's own. Conditions: the function is one of the program; at most 80 functions.
-/
namespace Go.Proofs.YtipjeihfhnilcaaDoor
open Go.RowKit

theorem info_fn3 : (Tryd.prog.info? 52).map (fun i => (i.zero, i.size, i.bytes)) = some (some (.agg #[.int .i64 0, .slice none 0 0, .slice none 0 0]), 3, 56) := by kernel_rfl
/-- The heads with head i replaced, in a row of the call's own. -/
def RepPost (n : Nat) (hs : List Hd) (i : Nat) (h' : Hd) (w : World) (e : Ending) (w' : World) : Prop :=
  ∃ (L c : Nat), e = .returned (gv (some ⟨L, 0, none⟩) n c) ∧ w'.ownsRow w.heap.size 52 3 (.slice (some ⟨L, 0, none⟩) n c) n (hcells (hs.set i h')) ∧ Below w.heap.size w w'
theorem rep_own {W : World} {base base' G n c : Nat} {t : TypeId} {size : Nat} {xs : List Value} (h : W.ownsRow base t size (.slice (some ⟨G, 0, none⟩) n c) n xs) {b : Nat} (hb : b < base) (hb' : base' ≤ base) (j : Nat) (u : Value) : (W.setCell ⟨b, j, none⟩ u).ownsRow base' t size (.slice (some ⟨G, 0, none⟩) n c) n xs := by
  have hk := h.kept (grown_cell W b j u) (.inr (fun e => by have := (h.lt G rfl).1; simp [Value.ownBlock] at e; omega))
  refine ⟨hk.1, ?_⟩
  rcases hk.2 with h2 | ⟨g, cap, cur, hv, hg, h3⟩
  · exact .inl h2
  · exact .inr ⟨g, cap, cur, hv, by omega, h3⟩
theorem rep_end {n i L cL : Nat} {hs : List Hd} {w w1 wf : World} {h0 h' : Hd}
    (hwf : (((w1.setCell ⟨L, i * 3, none⟩ (.int .i64 h'.p)).setCell ⟨L, i * 3 + 1, none⟩ (.slice h'.a1 h'.n1 h'.c1)).setCell ⟨L, i * 3 + 2, none⟩ (.slice h'.a2 h'.n2 h'.c2)).setCell ⟨w.heap.size + 1 + 1, 0, none⟩ (.slice (some ⟨L, 0, none⟩) n cL) = wf)
    (hB : Below w.heap.size w w1) (ho : w1.ownsRow (w.heap.size + 3) 52 3 (.slice (some ⟨L, 0, none⟩) n cL) n (hcells hs)) (hi : hs[i]? = some h0) (hR : Row w1 (w.heap.size + 1 + 1) 26 [.slice none 0 0]) :
    RepPost n hs i h' w (.returned (gv (some ⟨L, 0, none⟩) n cL)) wf ∧ wf.cell? ⟨w.heap.size + 1 + 1, 0, none⟩ = some (.slice (some ⟨L, 0, none⟩) n cL) := by
  have hLl := ho.lt L rfl
  have hLR : L ≠ w.heap.size + 1 + 1 := by omega
  have hBf : Below w.heap.size w wf := by
    rw [← hwf]
    exact (((hB.setCell (p := ⟨L, i * 3, none⟩) (by simp; omega) _).setCell (p := ⟨L, i * 3 + 1, none⟩) (by simp; omega) _).setCell (p := ⟨L, i * 3 + 2, none⟩) (by simp; omega) _).setCell (p := ⟨w.heap.size + 1 + 1, 0, none⟩) (by simp; omega) _
  have ho3 := (((ho.stored (i * 3) (.int .i64 h'.p)).1.stored (i * 3 + 1) (.slice h'.a1 h'.n1 h'.c1)).1.stored (i * 3 + 2) (.slice h'.a2 h'.n2 h'.c2)).1
  rw [hset3 hs i h0 h' hi] at ho3
  refine ⟨⟨L, cL, rfl, ?_, hBf⟩, ?_⟩
  · rw [← hwf]
    exact rep_own ho3 (by omega) (by omega) 0 _
  · rw [← hwf]
    have hR3 : Row (((w1.setCell ⟨L, i * 3, none⟩ (.int .i64 h'.p)).setCell ⟨L, i * 3 + 1, none⟩ (.slice h'.a1 h'.n1 h'.c1)).setCell ⟨L, i * 3 + 2, none⟩ (.slice h'.a2 h'.n2 h'.c2)) (w.heap.size + 1 + 1) 26 [.slice none 0 0] := ((hR.far (p := ⟨L, _, none⟩) (fun e => hLR e.symm) _).far (p := ⟨L, _, none⟩) (fun e => hLR e.symm) _).far (p := ⟨L, _, none⟩) (fun e => hLR e.symm) _
    exact (hR3.set_ 0 _).cell (k := 0) rfl

set_option maxRecDepth 100000 in
set_option maxHeartbeats 2000000 in
theorem replace_any (B : Nat) (A : Option Addr) (n c : Nat) (hs : List Hd) (i : Nat) (h' : Hd) (w : World) (HC : Hid (Cap A n c)) (HL : Hid (hs.length = n)) (HS : Hid (Sees w B A (hcells hs))) (hB : B ≤ w.heap.size) (hi : i < n) (hn : n ≤ 80) :
    Calls Tryd.prog 35 #[gv A n c, .int .i64 (i : Int), fv h'.p h'.a1 h'.n1 h'.c1 h'.a2 h'.n2 h'.c2] w (RepPost n hs i h' w) := by
  obtain ⟨j0, ji, jz0, jz1, jz2⟩ := info_parts info_fn3
  obtain ⟨W, hW, hbW, hsW, r0, r1, r2⟩ := boxes3 w [.slice A n c] [.int .i64 h'.p, .slice h'.a1 h'.n1 h'.c1, .slice h'.a2 h'.n2 h'.c2] [.slice none 0 0] 26 52 26
  have HW := hide hW
  have HSW := hide hsW
  have HBW := hide hbW
  have R0 := hide r0
  have R1 := hide r1
  have R2 := hide r2
  have HCA := hide HC.out.1
  have HCN := hide HC.out.2.1
  have HCL := hide (show (hcells hs).length = n * 3 by rw [hcells_length, HL.out])
  have HCS := hide (HS.out.below (hbW.mono hB))
  have x0 := r0.cell (k := 0) rfl
  clear hW hbW hsW r0 r1 r2
  go_enter Tryd.func35, Tryd.ntmps35
  go_upto_region 1 with (fail)
  rw [HW.out]
  clear HW
  go_wp2_with (at_builtin; refine wpList_append_seesN rfl (.const (.slice none 0 0)) (.tmp 9) 24 rfl (w.heap.size + 3) 52 j0 (.agg #[.int .i64 0, .slice none 0 0, .slice none 0 0]) 3 56 Tryd.underlying24 ji jz0 jz1 jz2 rfl (by decide) (.slice none 0 0) 0 [] rfl (World.ownsRow_nil _ _ _ _) B A n c (hcells hs) rfl HCA HCL HCS HCN (hcells_oneCell _) (by unfold maxLen; omega) (by omega) (by have := HSW.out; omega) ?_)
  intro v1 w1 ho0 hg1
  have ho1 : w1.ownsRow (w.heap.size + 3) 52 3 v1 n (hcells hs) := by simpa using ho0
  obtain ⟨L, cL, rfl, hLb, hLl, -, -⟩ := own_block ho1 (by omega)
  have HB1 := hide (show Below w.heap.size w w1 from HBW.out.grown hg1 HBW.out.size (fun q hq => by cases hq))
  have Q1 := hide (R1.out.grown hg1 (fun e => by cases e))
  have Q2 := hide (R2.out.grown hg1 (fun e => by cases e))
  have HO1 := hide ho1
  have hil : i < hs.length := by rw [HL.out]; exact hi
  obtain ⟨h0, hh0⟩ : ∃ h0, hs[i]? = some h0 := ⟨_, List.getElem?_eq_getElem hil⟩
  have HH0 := hide hh0
  obtain ⟨⟨l0, l1, l2⟩, fl⟩ := hd_row ho1 hh0
  have f0 := fl (i * 3)
  have f1 := fl (i * 3 + 1)
  have f2 := fl (i * 3 + 2)
  have p0 := Q1.out.cell (k := 0) rfl
  have p1 := Q1.out.cell (k := 1) rfl
  have p2 := Q1.out.cell (k := 2) rfl
  have z0 := Q2.out.cell (k := 0) rfl
  have zf := Q2.out.free 0
  have hiz : (0 : Int) ≤ (i : Int) := by omega
  have hiz' : (i : Int) < (n : Int) := by omega
  obtain ⟨wf, hwf⟩ : ∃ wf, (((w1.setCell ⟨L, i * 3, none⟩ (.int .i64 h'.p)).setCell ⟨L, i * 3 + 1, none⟩ (.slice h'.a1 h'.n1 h'.c1)).setCell ⟨L, i * 3 + 2, none⟩ (.slice h'.a2 h'.n2 h'.c2)).setCell ⟨w.heap.size + 1 + 1, 0, none⟩ (.slice (some ⟨L, 0, none⟩) n cL) = wf := ⟨_, rfl⟩
  obtain ⟨hfin, hcell⟩ := rep_end hwf HB1.out HO1.out HH0.out Q2.out
  have HFIN := hide hfin
  have HWF := hide hwf
  clear hfin hwf ho0 ho1 hg1 fl hh0 x0 HCS HCL HCA HCN HO1 R0 R1 R2
  go_wp2_with fail
  try rw [HWF.out]
  exact bodyPost_ret (v := gv (some ⟨L, 0, none⟩) n cL) (by simp [results, Tryd.results35, go_sem, hcell]) rfl HFIN.out

set_option maxHeartbeats 1000000 in
theorem only_any (B : Nat) (A : Option Addr) (n c : Nat) (hs : List Hd) (i : Nat) (h' : Hd) (w : World) (HC : Hid (Cap A n c)) (HL : Hid (hs.length = n)) (HS : Hid (Sees w B A (hcells hs))) (hB : B ≤ w.heap.size) (hi : i < n) (hn : n ≤ 80) :
    Calls Tryd.prog 27 #[gv A n c, .int .i64 (i : Int), fv h'.p h'.a1 h'.n1 h'.c1 h'.a2 h'.n2 h'.c2] w (RepPost n hs i h' w) := by
  obtain ⟨W, hW, hbW, hsW, r0, r1, r2⟩ := boxes3 w [.slice A n c] [.int .i64 h'.p, .slice h'.a1 h'.n1 h'.c1, .slice h'.a2 h'.n2 h'.c2] [.slice none 0 0] 26 52 26
  have HW := hide hW
  have HSW := hide hsW
  have HBW := hide hbW
  have R2 := hide r2
  have x0 := r0.cell (k := 0) rfl
  have y0 := r1.cell (k := 0) rfl
  have y1 := r1.cell (k := 1) rfl
  have y2 := r1.cell (k := 2) rfl
  have hl' := hbW.size
  have cr := replace_any B A n c hs i h' W HC HL (hide (HS.out.below (hbW.mono hB))) (by omega) hi hn
  clear hW hbW hsW r0 r1 r2
  go_enter Tryd.func27, Tryd.ntmps27
  go_upto_region 1 with (fail)
  rw [HW.out]
  clear HW
  go_wp2_with fail
  refine cr.mono ?_
  rintro e w2 ⟨L, c2, rfl, ho2, hb2⟩
  have Q2 := hide (R2.out.call hb2)
  have HB2 := hide (below_call HBW.out hb2)
  have HO2 := hide ho2
  have z0 := Q2.out.cell (k := 0) rfl
  have zf := Q2.out.free 0
  clear x0 y0 y1 y2 ho2 hb2 R2
  obtain ⟨wf, hwf⟩ : ∃ wf, w2.setCell ⟨w.heap.size + 1 + 1, 0, none⟩ (.slice (some ⟨L, 0, none⟩) n c2) = wf := ⟨_, rfl⟩
  have hcell : wf.cell? ⟨w.heap.size + 1 + 1, 0, none⟩ = some (.slice (some ⟨L, 0, none⟩) n c2) := by rw [← hwf]; exact (Q2.out.set_ 0 _).cell (k := 0) rfl
  have HFIN := hide (show RepPost n hs i h' w (.returned (gv (some ⟨L, 0, none⟩) n c2)) wf from ⟨L, c2, rfl, by rw [← hwf]; exact rep_own HO2.out (by have := HSW.out; omega) (by have := HSW.out; omega) 0 _, by rw [← hwf]; exact HB2.out.setCell (by simp; omega) _⟩)
  have HWF := hide hwf
  clear hwf
  go_wp2_with fail
  try rw [HWF.out]
  exact bodyPost_ret (v := gv (some ⟨L, 0, none⟩) n c2) (by simp [results, Tryd.results27, go_sem, hcell]) rfl HFIN.out
end Go.Proofs.YtipjeihfhnilcaaDoor
end

section
/-
  When two instructions, slots, functions are equal; '==' at slots and at instructions. No function of the program is named here.
-/
namespace Go.Proofs.YtipjeihfhnilcaaDoor
open Go.RowKit

instance : DecidableEq Ins := fun x y =>
  if h : x.op = y.op ∧ x.a = y.a ∧ x.b = y.b ∧ x.c = y.c ∧ x.imm = y.imm then isTrue (by
    obtain ⟨_, _, _, _, _⟩ := x
    obtain ⟨_, _, _, _, _⟩ := y
    obtain ⟨h1, h2, h3, h4, h5⟩ := h
    simp only at h1 h2 h3 h4 h5
    subst h1 h2 h3 h4 h5
    rfl)
  else isFalse fun e => h (by subst e; exact ⟨rfl, rfl, rfl, rfl, rfl⟩)
instance : DecidableEq Fn := fun x y =>
  if h : x.params = y.params ∧ x.slots = y.slots ∧ x.code = y.code then isTrue (by
    obtain ⟨_, _, _⟩ := x
    obtain ⟨_, _, _⟩ := y
    obtain ⟨h1, h2, h3⟩ := h
    simp only at h1 h2 h3
    subst h1 h2 h3
    rfl)
  else isFalse fun e => h (by subst e; exact ⟨rfl, rfl, rfl⟩)
theorem ins_eq {x y : Ins} : x = y ↔ x.op = y.op ∧ x.a = y.a ∧ x.b = y.b ∧ x.c = y.c ∧ x.imm = y.imm := by
  constructor
  · rintro rfl; exact ⟨rfl, rfl, rfl, rfl, rfl⟩
  · intro h
    obtain ⟨_, _, _, _, _⟩ := x
    obtain ⟨_, _, _, _, _⟩ := y
    obtain ⟨h1, h2, h3, h4, h5⟩ := h
    simp only at h1 h2 h3 h4 h5
    subst h1 h2 h3 h4 h5
    rfl

theorem snoc_take {α : Type} {l : List α} {k : Nat} (h : k < l.length) : l.take (k + 1) = l.take k ++ [l[k]] := by
  rw [List.take_add_one, List.getElem?_eq_getElem h]; rfl
theorem ne_take {α : Type} {l m : List α} {k : Nat} (h1 : k < l.length) (h2 : k < m.length) (hne : l[k] ≠ m[k]) : l ≠ m := by
  rintro rfl; exact hne rfl

/-- Whether two lists are equal, the world but for draws as it was. -/
def BoolDrew (b : Bool) (w : World) (e : Ending) (w' : World) : Prop := e = .returned (.bool b) ∧ ∃ k, w' = w.drewN k

theorem slot_fields : Tryd.prog.underlying 57 = some (.struct (Tryd.prog.fieldsOf 57)) := by kernel_rfl
theorem slot_held : Tryd.prog.stoodInHeld 57 = false := by kernel_rfl
theorem equalIn_slot (a b c d : Int) (w : World) : (Op.equalIn 10000 57 (pv a b) (pv c d)).run Tryd.prog w = .ok (decide (a = c) && decide (b = d)) w := by
  rw [show (10000 : Nat) = 9999 + 1 from rfl, run_equalIn_agg w 9999 57 _ _ slot_fields slot_held]
  have u := Tryd.underlying3
  have a' := Tryd.isAgg3
  have z := Tryd.sizeOf3
  simp only [Program.fieldsOf, Tryd.underlying57]
  go_simp
  by_cases h1 : a = c <;> by_cases h2 : b = d <;> simp [h1, h2]
theorem run_ne_slot (a b c d : Int) (w : World) : (binOp .neq 57 (pv a b) (pv c d)).run Tryd.prog w = .ok (.bool (!(decide (a = c) && decide (b = d)))) w := by
  rw [run_neq_struct, equalIn_slot, Result.andThen_ok]
theorem instr_fields : Tryd.prog.underlying 48 = some (.struct (Tryd.prog.fieldsOf 48)) := by kernel_rfl
theorem instr_held : Tryd.prog.stoodInHeld 48 = false := by kernel_rfl
theorem equalIn_instr (o a b c m o' a' b' c' m' : Int) (w : World) : (Op.equalIn 10000 48 (iv o a b c m) (iv o' a' b' c' m')).run Tryd.prog w = .ok (decide (o = o') && (decide (a = a') && (decide (b = b') && (decide (c = c') && decide (m = m'))))) w := by
  rw [show (10000 : Nat) = 9999 + 1 from rfl, run_equalIn_agg w 9999 48 _ _ instr_fields instr_held]
  have u := Tryd.underlying3
  have ag := Tryd.isAgg3
  have z := Tryd.sizeOf3
  have u' := Tryd.underlying31
  have ag' := Tryd.isAgg31
  have z' := Tryd.sizeOf31
  simp only [Program.fieldsOf, Tryd.underlying48]
  go_simp
  by_cases h1 : o = o' <;> by_cases h2 : a = a' <;> by_cases h3 : b = b' <;> by_cases h4 : c = c' <;> by_cases h5 : m = m' <;> simp [h1, h2, h3, h4, h5]
theorem run_ne_instr (o a b c m o' a' b' c' m' : Int) (w : World) : (binOp .neq 48 (iv o a b c m) (iv o' a' b' c' m')).run Tryd.prog w = .ok (.bool (!(decide (o = o') && (decide (a = a') && (decide (b = b') && (decide (c = c') && decide (m = m'))))))) w := by
  rw [run_neq_struct, equalIn_instr, Result.andThen_ok]

theorem fn_eq {x y : Fn} : x = y ↔ x.params = y.params ∧ x.slots = y.slots ∧ x.code = y.code := by
  constructor
  · rintro rfl; exact ⟨rfl, rfl, rfl⟩
  · intro h
    obtain ⟨_, _, _⟩ := x
    obtain ⟨_, _, _⟩ := y
    obtain ⟨h1, h2, h3⟩ := h
    simp only at h1 h2 h3
    subst h1 h2 h3
    rfl
end Go.Proofs.YtipjeihfhnilcaaDoor
end
