import Derived.Test.YtipjeihfhnilcaaDoorMEslots
import Derived.Test.YtipjeihfhnilcaaDoorMZshf
import Derived.Laws.AppendOwn
set_option linter.unusedVariables false
set_option linter.unusedSimpArgs false
section
/-
  The contract of sir.operandErrors: what is wrong with the operands of an instruction. Conditions: the table of operations lies as its initialiser lays it; the operation is one of the 25.
-/
namespace Go.Proofs.YtipjeihfhnilcaaDoor
open Go.RowKit

/-- The cells of the table. -/
def shCell (s : Int × Int × Int × Bool) : List Value := [.int .i64 s.1, .int .i64 s.2.1, .int .i64 s.2.2.1, .bool s.2.2.2]
def shCells : List Value := shp.flatMap shCell
/-- The table of operations lies in its variable. -/
def Shapes (w : World) : Prop := ∀ (j : Nat) (u : Value), shCells[j]? = some u → w.cell? ⟨0, j, none⟩ = some u
theorem Shapes.pos {w : World} (h : Shapes w) : 0 < w.heap.size := World.block_lt_of_cell? _ _ (h 0 (.int .i64 1) rfl)
theorem Shapes.keep {w w' : World} (h : Shapes w) {B : Nat} (hb : Below B w w') (hB : 0 < B) : Shapes w' := fun j u hj => (hb.cell (p := ⟨0, j, none⟩) hB).trans (h j u hj)
theorem Shapes.below {w w' : World} (h : Shapes w) (hb : Below w.heap.size w w') : Shapes w' := h.keep hb h.pos
theorem Shapes.kept {w w' : World} {g : Nat} (h : Shapes w) (hg : w.grownBy w' (some g)) (h0 : 0 < g) : Shapes w' := fun j u hj =>
  (World.cell?_of_block (hg.block 0 h.pos (fun e => by injection e with e; omega))).trans (h j u hj)
theorem shp_length : shp.length = 25 := rfl
theorem shCell_len (s : Int × Int × Int × Bool) : (shCell s).length = 4 := rfl
theorem Shapes.at_ {w : World} (h : Shapes w) {op : Nat} (ho : op < 25) : w.cell? ⟨0, op * 4, none⟩ = some (.int .i64 (shpOf op).1) ∧ w.cell? ⟨0, op * 4 + 1, none⟩ = some (.int .i64 (shpOf op).2.1) ∧ w.cell? ⟨0, op * 4 + 2, none⟩ = some (.int .i64 (shpOf op).2.2.1) ∧ w.cell? ⟨0, op * 4 + 3, none⟩ = some (.bool (shpOf op).2.2.2) := by
  have hl : op < shp.length := by rw [shp_length]; exact ho
  have hx := List.getElem?_eq_getElem hl
  have e : shpOf (op : Int) = shp[op] := by unfold shpOf; rw [Int.toNat_natCast, List.getD_eq_getElem?_getD, hx]; rfl
  have g := fun j hj => flat_at shCell_len shp op _ hx j hj
  rw [e]
  exact ⟨h _ _ (g 0 (by omega)), h _ _ (g 1 (by omega)), h _ _ (g 2 (by omega)), h _ _ (g 3 (by omega))⟩

set_option maxRecDepth 100000 in
set_option maxHeartbeats 2000000 in
theorem operr_any (A : Option Addr) (n c : Nat) (P : Int) (A1 : Option Addr) (n1 c1 : Nat) (A2 : Option Addr) (n2 c2 : Nat) (op : Nat) (a b d m : Int) (w : World) (hT : Hid (Shapes w)) (ho : op < 25) :
    Calls Tryd.prog 60 #[gv A n c, fv P A1 n1 c1 A2 n2 c2, iv op a b d m] w (ErrsPost (foundE (oneE n P n1 n2 (shpOf op).1 a) (oneE n P n1 n2 (shpOf op).2.1 b) (oneE n P n1 n2 (shpOf op).2.2.1 d) (shpOf op).2.2.2 m) w) := by
  obtain ⟨t0, t1, t2, t3⟩ := hT.out.at_ ho
  have hp := hT.out.pos
  have hp0 : 0 < w.heap.size := by omega
  have hp1 : 0 < w.heap.size := hp
  have hp2 : 0 < w.heap.size + 1 := by omega
  have hp3 : 0 < w.heap.size + 1 + 1 := by omega
  obtain ⟨k1, hk1⟩ : ∃ k, (shpOf (op : Int)).1 = k := ⟨_, rfl⟩
  obtain ⟨k2, hk2⟩ : ∃ k, (shpOf (op : Int)).2.1 = k := ⟨_, rfl⟩
  obtain ⟨k3, hk3⟩ : ∃ k, (shpOf (op : Int)).2.2.1 = k := ⟨_, rfl⟩
  obtain ⟨im, him⟩ : ∃ k, (shpOf (op : Int)).2.2.2 = k := ⟨_, rfl⟩
  rw [hk1] at t0 ⊢
  rw [hk2] at t1 ⊢
  rw [hk3] at t2 ⊢
  rw [him] at t3 ⊢
  clear hk1 hk2 hk3 him
  have c' := fun k x W => chkop_any A n c P A1 n1 c1 A2 n2 c2 k x W
  have C := hide c'
  clear c'
  have hop0 : (0 : Int) ≤ (op : Int) := by omega
  have hop1 : (op : Int) < 25 := by omega
  obtain ⟨W, hW, hbW, hsW, r0, r1, r2, r3⟩ := boxes4 w [.slice A n c] [.int .i64 P, .slice A1 n1 c1, .slice A2 n2 c2] [.int .i64 (op : Int), .int .i64 a, .int .i64 b, .int .i64 d, .int .u64 m] [.int .i64 k1, .int .i64 k2, .int .i64 k3, .bool im] 26 52 48 117
  have HW := hide hW
  have HS := hide hsW
  have HB := hide hbW
  clear hW hsW hbW
  go_enter Tryd.func60, Tryd.ntmps60
  go_wp2_with fail
  rw [HW.out]
  clear HW t0 t1 t2 t3
  have x0 := r0.cell (k := 0) rfl
  have y0 := r1.cell (k := 0) rfl
  have y1 := r1.cell (k := 1) rfl
  have y2 := r1.cell (k := 2) rfl
  have z1 := r2.cell (k := 1) rfl
  have z2 := r2.cell (k := 2) rfl
  have z3 := r2.cell (k := 3) rfl
  have z4 := r2.cell (k := 4) rfl
  have u0 := r3.cell (k := 0) rfl
  have u1 := r3.cell (k := 1) rfl
  have u2 := r3.cell (k := 2) rfl
  have u3 := r3.cell (k := 3) rfl
  clear r0 r1 r2 r3
  go_region_held3 (fun w' => w'.cell? ⟨w.heap.size, 0, none⟩ = some (.slice A n c) ∧ w'.cell? ⟨w.heap.size + 1, 0, none⟩ = some (.int .i64 P) ∧ w'.cell? ⟨w.heap.size + 1, 1, none⟩ = some (.slice A1 n1 c1) ∧ w'.cell? ⟨w.heap.size + 1, 2, none⟩ = some (.slice A2 n2 c2) ∧
      w'.cell? ⟨w.heap.size + 1 + 1, 1, none⟩ = some (.int .i64 a) ∧ w'.cell? ⟨w.heap.size + 1 + 1, 2, none⟩ = some (.int .i64 b) ∧ w'.cell? ⟨w.heap.size + 1 + 1, 3, none⟩ = some (.int .i64 d) ∧ w'.cell? ⟨w.heap.size + 1 + 1, 4, none⟩ = some (.int .u64 m) ∧
      w'.cell? ⟨w.heap.size + 1 + 1 + 1, 0, none⟩ = some (.int .i64 k1) ∧ w'.cell? ⟨w.heap.size + 1 + 1 + 1, 1, none⟩ = some (.int .i64 k2) ∧ w'.cell? ⟨w.heap.size + 1 + 1 + 1, 2, none⟩ = some (.int .i64 k3) ∧ w'.cell? ⟨w.heap.size + 1 + 1 + 1, 3, none⟩ = some (.bool im))
    (first | go_keep | (refine ⟨keep_cellB hb1 ?_, keep_cellB hb1 ?_, keep_cellB hb1 ?_, keep_cellB hb1 ?_, keep_cellB hb1 ?_, keep_cellB hb1 ?_, keep_cellB hb1 ?_, keep_cellB hb1 ?_, keep_cellB hb1 ?_, keep_cellB hb1 ?_, keep_cellB hb1 ?_, keep_cellB hb1 ?_⟩ <;> go_keep))
    (first | (go_at_call 67; refine (C.out _ _ _).mono ?_; rintro e w2 ⟨rfl, hb1⟩))
  rename_i a1 a2 a3 a4 hh
  have hB4 : Below W.heap.size W w2 := (Below.refl W.heap.size W).drew.trans (below_call (below_call a2 a4) hb1)
  have hB0 := hide (HB.out.trans (hB4.mono HB.out.size))
  obtain ⟨-, -, -, -, -, -, -, hz4, -, -, -, hu3⟩ := hh
  have ho := three_new w2 (.int .i64 (oneE n P n1 n2 k1 a)) (.int .i64 (oneE n P n1 n2 k2 b)) (.int .i64 (oneE n P n1 n2 k3 d)) 37 w2.heap.size (Nat.le_refl _)
  have HO := hide ho
  clear hB4 a2 a4 hb1 x0 y0 y1 y2 z1 z2 z3 z4 u0 u1 u2 u3 C ho
  cases im with
  | true =>
    go_wp2_with fail
    go_ret
    exact ⟨some ⟨w2.heap.size, 0, none⟩, 3, rfl, Sees.own HO.out, hB0.out.alloc hB0.out.size _⟩
  | false =>
    by_cases hm : m = 0
    · subst hm
      go_wp2_with fail
      go_ret
      exact ⟨some ⟨w2.heap.size, 0, none⟩, 3, rfl, Sees.own HO.out, hB0.out.alloc hB0.out.size _⟩
    · have hne : (m != 0) = true := by simpa using hm
      have HF := hide (show foundE (oneE n P n1 n2 k1 a) (oneE n P n1 n2 k2 b) (oneE n P n1 n2 k3 d) false m = [oneE n P n1 n2 k1 a, oneE n P n1 n2 k2 b, oneE n P n1 n2 k3 d] ++ [2] by unfold foundE; rw [if_pos ⟨rfl, hm⟩])
      clear hm
      go_wp2_with fail
      go_ret
      unfold ErrsPost
      rw [HF.out]
      refine ⟨some ⟨w2.heap.size + 1 + 1, 0, none⟩, _, rfl, sees_grown _ [_, _, _, _] _ _ ?_, ?_⟩
      · simp
      exact (((hB0.out.alloc hB0.out.size _).alloc (by have := hB0.out.size; simp; omega) _).alloc (by have := hB0.out.size; simp; omega) _).drew
end Go.Proofs.YtipjeihfhnilcaaDoor
end
