import Derived.Test.YtlkikjgapingjaaDoorMGd
import Derived.Test.YtlkikjgapingjaaDoorMGa
import Derived.Outline
import Derived.Deep.RegionHeld3
import Derived.Deep.DrawnRows
import Derived.Laws.AppendOwn
set_option linter.unusedVariables false
set_option linter.unusedSimpArgs false
section
/-
  The contract of sir.Terminator. No condition.
-/
namespace Go.Proofs.YtlkikjgapingjaaDoor
open Go.RowKit

theorem term_any (op : Int) (w : World) : Calls Tryd.prog 55 #[.int .i64 op] w fun e w' => e = .returned (.bool (termB op)) ∧ w = w' := by
  by_cases h1 : op = 20
  · subst h1
    go_enter Tryd.func55, Tryd.ntmps55
    go_wp2_with fail
    go_ret
    exact ⟨rfl, rfl⟩
  · by_cases h2 : op = 23
    · subst h2
      go_enter Tryd.func55, Tryd.ntmps55
      go_wp2_with fail
      go_ret
      exact ⟨rfl, rfl⟩
    · have b1 : (op == 20) = false := by simpa using h1
      have b2 : (op == 23) = false := by simpa using h2
      have e := hide (show termB op = (op == 24) by simp [termB, b1, b2])
      clear h1 h2
      go_enter Tryd.func55, Tryd.ntmps55
      go_wp2_with fail
      go_ret
      exact ⟨ret_bool e.out.symm, rfl⟩
end Go.Proofs.YtlkikjgapingjaaDoor
end

section
/-
  The contracts of sir.within, count, checkOperand, and of slices.Index and slices.Contains at error codes. Conditions: those of the types.
-/
namespace Go.Proofs.YtlkikjgapingjaaDoor
open Go.RowKit

theorem within_any (n m : Int) (w : World) : Calls Tryd.prog 40 #[.int .i64 n, .int .i64 m] w fun e w' => e = .returned (.bool (withB n m)) ∧ w = w' := by
  by_cases h : 0 ≤ n
  · go_enter Tryd.func40, Tryd.ntmps40
    go_wp2_with fail
    go_ret
    exact ⟨ret_bool (by simp [withB, h]), rfl⟩
  · have hd : decide (0 ≤ n) = false := by simpa using h
    go_enter Tryd.func40, Tryd.ntmps40
    go_wp2_with fail
    go_ret
    exact ⟨ret_bool (by simp [withB, hd]), rfl⟩

/-- The same by numbers. -/
def cntR (N : Nat) (P : Int) (n1 n2 : Nat) (k : Int) : Int := if k = 1 then 8 else if k = 2 then n1 else if k = 3 then N else if k = 4 then 8 else if k = 5 then P else if k = 6 then n2 else 1
theorem cntR_eq (N : Nat) (f : Fn) (k : Int) : cntR N f.params f.slots.length f.code.length k = cntV N f k := rfl

set_option maxHeartbeats 400000 in
theorem count_any (A : Option Addr) (n c : Nat) (P : Int) (A1 : Option Addr) (n1 c1 : Nat) (A2 : Option Addr) (n2 c2 : Nat) (k : Int) (w : World) :
    Calls Tryd.prog 68 #[gv A n c, fv P A1 n1 c1 A2 n2 c2, .int .i64 k] w fun e w' => e = .returned (.int .i64 (cntR n P n1 n2 k)) ∧ Below w.heap.size w w' := by
  by_cases h : k = 1 ∨ k = 2 ∨ k = 3 ∨ k = 4 ∨ k = 5 ∨ k = 6
  · rcases h with rfl | rfl | rfl | rfl | rfl | rfl
    all_goals
      go_enter Tryd.func68, Tryd.ntmps68
      go_wp2_with fail
      go_ret
      exact ⟨ret_int (by simp [cntR]), below2 _ _ _⟩
  · have b1 : (k == 1) = false := by simp; omega
    have b2 : (k == 2) = false := by simp; omega
    have b3 : (k == 3) = false := by simp; omega
    have b4 : (k == 4) = false := by simp; omega
    have b5 : (k == 5) = false := by simp; omega
    have b6 : (k == 6) = false := by simp; omega
    have hc := hide (show cntR n P n1 n2 k = 1 by unfold cntR; rw [if_neg (by omega), if_neg (by omega), if_neg (by omega), if_neg (by omega), if_neg (by omega), if_neg (by omega)])
    clear h
    go_enter Tryd.func68, Tryd.ntmps68
    go_wp2_with fail
    go_ret
    exact ⟨ret_int hc.out.symm, below2 _ _ _⟩

/-- The error of one operand, by numbers. -/
def oneE (N : Nat) (P : Int) (n1 n2 : Nat) (k x : Int) : Int := if withB x (cntR N P n1 n2 k) then 0 else if k = 0 then 2 else if k = 6 then 6 else 4
theorem oneE_eq (N : Nat) (f : Fn) (k x : Int) : oneE N f.params f.slots.length f.code.length k x = opndE N f k x := rfl

set_option maxHeartbeats 400000 in
theorem chkop_any (A : Option Addr) (n c : Nat) (P : Int) (A1 : Option Addr) (n1 c1 : Nat) (A2 : Option Addr) (n2 c2 : Nat) (k x : Int) (w : World) :
    Calls Tryd.prog 60 #[gv A n c, fv P A1 n1 c1 A2 n2 c2, .int .i64 k, .int .i64 x] w fun e w' => e = .returned (.int .i64 (oneE n P n1 n2 k x)) ∧ Below w.heap.size w w' := by
  have c1' := fun W => count_any A n c P A1 n1 c1 A2 n2 c2 k W
  have HE := hide (show oneE n P n1 n2 k x = if withB x (cntR n P n1 n2 k) then 0 else if k = 0 then 2 else if k = 6 then 6 else 4 from rfl)
  obtain ⟨m, hm⟩ : ∃ m, cntR n P n1 n2 k = m := ⟨_, rfl⟩
  rw [hm] at c1'
  have HM := hide hm
  have C1 := hide c1'
  have c2' := fun W => within_any x m W
  obtain ⟨b, hb⟩ : ∃ b, withB x m = b := ⟨_, rfl⟩
  rw [hb] at c2'
  have HB := hide hb
  have C2 := hide c2'
  clear hm hb c1' c2'
  cases b with
  | true =>
    go_enter Tryd.func60, Tryd.ntmps60
    go_wp2_with fail
    refine (C1.out _).mono ?_
    rintro e w1 ⟨rfl, hb1⟩
    have HW := hide (below_call (below2 w _ _) hb1)
    clear hb1
    go_wp2_with fail
    refine (C2.out _).mono ?_
    rintro e w2 ⟨rfl, rfl⟩
    go_wp2_with fail
    go_ret
    exact ⟨ret_int (by rw [HE.out, HM.out, HB.out]; rfl), HW.out⟩
  | false =>
    by_cases k0 : k = 0
    · have HR := hide (show oneE n P n1 n2 k x = 2 by rw [HE.out, HM.out, HB.out]; simp [k0])
      clear HE
      subst k0
      go_enter Tryd.func60, Tryd.ntmps60
      go_wp2_with fail
      refine (C1.out _).mono ?_
      rintro e w1 ⟨rfl, hb1⟩
      have HW := hide (below_call (below2 w _ _) hb1)
      clear hb1
      go_wp2_with fail
      refine (C2.out _).mono ?_
      rintro e w2 ⟨rfl, rfl⟩
      go_wp2_with fail
      go_ret
      exact ⟨ret_int HR.out.symm, HW.out⟩
    · by_cases k6 : k = 6
      · have HR := hide (show oneE n P n1 n2 k x = 6 by rw [HE.out, HM.out, HB.out]; simp [k6])
        clear HE k0
        subst k6
        go_enter Tryd.func60, Tryd.ntmps60
        go_wp2_with fail
        refine (C1.out _).mono ?_
        rintro e w1 ⟨rfl, hb1⟩
        have HW := hide (below_call (below2 w _ _) hb1)
        clear hb1
        go_wp2_with fail
        refine (C2.out _).mono ?_
        rintro e w2 ⟨rfl, rfl⟩
        go_wp2_with fail
        go_ret
        exact ⟨ret_int HR.out.symm, HW.out⟩
      · have HR := hide (show oneE n P n1 n2 k x = 4 by rw [HE.out, HM.out, HB.out]; simp [k0, k6])
        have b0 : (k == 0) = false := by simpa using k0
        have b6 : (k == 6) = false := by simpa using k6
        clear HE k0 k6
        go_enter Tryd.func60, Tryd.ntmps60
        go_wp2_with fail
        refine (C1.out _).mono ?_
        rintro e w1 ⟨rfl, hb1⟩
        have HW := hide (below_call (below2 w _ _) hb1)
        clear hb1
        go_wp2_with fail
        refine (C2.out _).mono ?_
        rintro e w2 ⟨rfl, rfl⟩
        go_wp2_with fail
        go_ret
        exact ⟨ret_int HR.out.symm, HW.out⟩

/-- Ints as cells. -/
def cellsE (zs : List Int) : List Value := zs.map (Value.int .i64)
theorem cellsE_length (zs : List Int) : (cellsE zs).length = zs.length := by simp [cellsE]
theorem err_at {w : World} {B : Nat} {A : Option Addr} {zs : List Int} {k : Nat} (h : Sees w B A (cellsE zs)) (hk : k < zs.length) : ∃ b off, A = some ⟨b, off, none⟩ ∧ b < B ∧ w.cell? ⟨b, off + k, none⟩ = some (.int .i64 zs[k]) :=
  h k (.int .i64 zs[k]) (by simp [cellsE, List.getElem?_map, List.getElem?_eq_getElem hk])
def IdxPost (zs : List Int) (x : Int) (w : World) (e : Ending) (w' : World) : Prop := ∃ i : Int, e = .returned (.int .i64 i) ∧ decide (0 ≤ i) = zs.contains x ∧ w = w'
set_option maxHeartbeats 400000 in
theorem eidx_any (A : Option Addr) (n c : Nat) (zs : List Int) (x : Int) (B : Nat) (w : World) (hn : Hid (zs.length = n)) (hm : n ≤ 4611686018427387904) (h : Hid (Sees w B A (cellsE zs))) :
    Calls Tryd.prog 61 #[.slice A n c, .int .i64 x] w (IdxPost zs x w) := by
  go_enter Tryd.func61, Tryd.ntmps61
  go_wp2_with fail
  go_loop [8] (fun i => ∃ k : Nat, k ≤ n ∧ i = .int .i64 k ∧ Hid (∀ j (hj : j < zs.length), j < k → zs[j] ≠ x)) (fun i => n - (intOf i).toNat)
  case atStart => exact ⟨0, by omega, rfl, hide fun j hj h => by omega⟩
  case round =>
    obtain ⟨k, hk, rfl, hno⟩ := hrel
    by_cases hlt : k < n
    · have hltz : (k : Int) < (n : Int) := by omega
      have hkz : (0 : Int) ≤ (k : Int) := by omega
      have hkl : k < zs.length := by have := hn.out; omega
      obtain ⟨b, off, rfl, _, c0⟩ := err_at h.out hkl
      have hit : Hid (zs[k] = x → zs.contains x = true) := hide fun e => by rw [List.contains_iff_mem]; exact e ▸ List.getElem_mem hkl
      obtain ⟨y, hy⟩ : ∃ y, zs[k] = y := ⟨_, rfl⟩
      rw [hy] at c0 hit
      have HY := hide hy
      clear hy
      by_cases hxy : x = y
      · subst hxy
        have hh := hide (hit.out rfl)
        go_wp2_with fail
        go_ret
        exact ⟨_, rfl, by rw [hh.out]; simp, rfl⟩
      · have hne : (x == y) = false := by simpa using hxy
        have hne' : Hid (y ≠ x) := hide fun e => hxy e.symm
        clear hxy hit
        go_wp2_with fail
        go_round
        case rel =>
          refine ⟨k + 1, by omega, by go_num, hide fun j hj hjk => ?_⟩
          by_cases e : j = k
          · subst e; rw [HY.out]; exact hne'.out
          · exact hno.out j hj (by omega)
        case measure => simp [intOf]; omega
    · obtain rfl : k = n := by omega
      have hh : Hid (zs.contains x = false) := hide (by
        rw [Bool.eq_false_iff, ne_eq, List.contains_iff_mem]
        intro hx
        obtain ⟨j, hj, e⟩ := List.mem_iff_getElem.1 hx
        exact hno.out j hj (by have := hn.out; omega) e)
      go_wp2_with fail
      go_ret
      exact ⟨_, rfl, by rw [hh.out]; rfl, rfl⟩
theorem econt_any (A : Option Addr) (n c : Nat) (zs : List Int) (x : Int) (B : Nat) (w : World) (hn : Hid (zs.length = n)) (hm : n ≤ 4611686018427387904) (h : Hid (Sees w B A (cellsE zs))) :
    Calls Tryd.prog 54 #[.slice A n c, .int .i64 x] w fun e w' => e = .returned (.bool (zs.contains x)) ∧ w = w' := by
  go_enter Tryd.func54, Tryd.ntmps54
  go_wp2_with fail
  refine (eidx_any A n c zs x B _ hn hm h).mono ?_
  rintro e w' ⟨i, rfl, hi, rfl⟩
  have HI := hide hi
  clear hi
  go_wp2_with fail
  go_ret
  exact ⟨ret_bool HI.out, rfl⟩
end Go.Proofs.YtlkikjgapingjaaDoor
end

section
/-
  The contract of sir.operandErrors: what is wrong with the operands of an instruction. Conditions: the table of operations lies as its initialiser lays it; the operation is one of the 25.
-/
namespace Go.Proofs.YtlkikjgapingjaaDoor
open Go.RowKit

/-- The cells of the table. -/
def shCell (s : Int × Int × Int × Bool) : List Value := [.int .i64 s.1, .int .i64 s.2.1, .int .i64 s.2.2.1, .bool s.2.2.2]
def shCells : List Value := shp.flatMap shCell
/-- The table of operations lies in its variable. -/
def Shapes (w : World) : Prop := ∀ (j : Nat) (u : Value), shCells[j]? = some u → w.cell? ⟨0, j, none⟩ = some u
theorem Shapes.pos {w : World} (h : Shapes w) : 0 < w.heap.size := World.block_lt_of_cell? _ _ (h 0 (.int .i64 1) rfl)
theorem Shapes.keep {w w' : World} (h : Shapes w) {B : Nat} (hb : Below B w w') (hB : 0 < B) : Shapes w' := fun j u hj => (hb.cell (p := ⟨0, j, none⟩) hB).trans (h j u hj)
theorem Shapes.below {w w' : World} (h : Shapes w) (hb : Below w.heap.size w w') : Shapes w' := h.keep hb h.pos
theorem Shapes.kept {w w' : World} {g : Nat} (h : Shapes w) (hg : w.grownBy w' (some g)) (h0 : 0 < g) : Shapes w' := fun j u hj =>
  (World.cell?_of_block (hg.block 0 h.pos (fun e => by injection e with e; omega))).trans (h j u hj)
theorem shp_length : shp.length = 25 := rfl
theorem shCell_len (s : Int × Int × Int × Bool) : (shCell s).length = 4 := rfl
theorem Shapes.at_ {w : World} (h : Shapes w) {op : Nat} (ho : op < 25) : w.cell? ⟨0, op * 4, none⟩ = some (.int .i64 (shpOf op).1) ∧ w.cell? ⟨0, op * 4 + 1, none⟩ = some (.int .i64 (shpOf op).2.1) ∧ w.cell? ⟨0, op * 4 + 2, none⟩ = some (.int .i64 (shpOf op).2.2.1) ∧ w.cell? ⟨0, op * 4 + 3, none⟩ = some (.bool (shpOf op).2.2.2) := by
  have hl : op < shp.length := by rw [shp_length]; exact ho
  have hx := List.getElem?_eq_getElem hl
  have e : shpOf (op : Int) = shp[op] := by unfold shpOf; rw [Int.toNat_natCast, List.getD_eq_getElem?_getD, hx]; rfl
  have g := fun j hj => flat_at shCell_len shp op _ hx j hj
  rw [e]
  exact ⟨h _ _ (g 0 (by omega)), h _ _ (g 1 (by omega)), h _ _ (g 2 (by omega)), h _ _ (g 3 (by omega))⟩

theorem Tryd.info37 : (Tryd.prog.info? 37).map (fun i => (i.zero, i.size, i.bytes)) = some (some (.int .i64 0), 1, 8) := by kernel_rfl
/-- A list of error codes of the call's own. -/
def ErrsPost (zs : List Int) (w : World) (e : Ending) (w' : World) : Prop := ∃ (A : Option Addr) (c : Nat), e = .returned (.slice A zs.length c) ∧ Sees w' w'.heap.size A (cellsE zs) ∧ Below w.heap.size w w'
theorem three_new (w : World) (x y z : Value) (t : TypeId) (B : Nat) (hB : B ≤ w.heap.size) : (w.alloc (.cells #[x, y, z] t)).ownsRow B t 1 (.slice (some ⟨w.heap.size, 0, none⟩) 3 3) 3 [x, y, z] :=
  ⟨rfl, .inr ⟨w.heap.size, 3, #[x, y, z], rfl, hB, heap_alloc_new w _, by omega, by unfold maxLen; omega, rfl, rfl⟩⟩
theorem own_sees {w : World} {B : Nat} {t : TypeId} {v : Value} {n : Nat} {xs : List Value} (h : w.ownsRow B t 1 v n xs) : ∃ A c, v = .slice A n c ∧ Sees w w.heap.size A xs := by
  obtain ⟨A, c, rfl, _, _⟩ := own_form h
  exact ⟨A, c, rfl, Sees.own h⟩
theorem below4 (w : World) (o p q r : Obj) : Below w.heap.size w ((((w.alloc o).alloc p).alloc q).alloc r) := (below3 w o p q).alloc (by simp; omega) _

theorem sees_grown (w : World) (xs : List Value) (t : TypeId) (r : Array Value) {k : Nat} (hk : k = w.heap.size) : Sees (w.alloc (.cells (xs.toArray ++ r) t)).drew (w.alloc (.cells (xs.toArray ++ r) t)).drew.heap.size (some ⟨k, 0, none⟩) xs := fun j u hj => by
  subst hk
  refine ⟨w.heap.size, 0, rfl, by show w.heap.size < (w.alloc _).heap.size; simp, ?_⟩
  show (w.alloc (.cells (xs.toArray ++ r) t)).cell? _ = _
  have h := (Row.new w t (xs ++ r.toList)).cell (k := 0 + j) (v := u) (by
    rw [Nat.zero_add]
    have hl : j < xs.length := by
      rcases Nat.lt_or_ge j xs.length with h1 | h1
      · exact h1
      · rw [List.getElem?_eq_none h1] at hj; cases hj
    rw [List.getElem?_append_left hl]; exact hj)
  have e : (xs ++ r.toList).toArray = xs.toArray ++ r := by simp
  rw [e] at h
  exact h
/-- Four boxes, one behind the other. -/
theorem boxes4 (w : World) (l1 l2 l3 l4 : List Value) (t1 t2 t3 t4 : TypeId) : ∃ W, (((w.alloc (.cells l1.toArray t1)).alloc (.cells l2.toArray t2)).alloc (.cells l3.toArray t3)).alloc (.cells l4.toArray t4) = W ∧ Below w.heap.size w W ∧ w.heap.size + 4 = W.heap.size ∧
    Row W w.heap.size t1 l1 ∧ Row W (w.heap.size + 1) t2 l2 ∧ Row W (w.heap.size + 1 + 1) t3 l3 ∧ Row W (w.heap.size + 1 + 1 + 1) t4 l4 := by
  refine ⟨_, rfl, below4 _ _ _ _ _, by simp, (((Row.new w t1 l1).alloc _).alloc _).alloc _, (Row.alloc (Row.alloc ?_ _) _), (Row.alloc ?_ _), ?_⟩
  · exact heap_at _ _ (by simp)
  · exact heap_at _ _ (by simp)
  · exact heap_at _ _ (by simp)

set_option maxRecDepth 100000 in
set_option maxHeartbeats 2000000 in
theorem operr_any (A : Option Addr) (n c : Nat) (P : Int) (A1 : Option Addr) (n1 c1 : Nat) (A2 : Option Addr) (n2 c2 : Nat) (op : Nat) (a b d m : Int) (w : World) (hT : Hid (Shapes w)) (ho : op < 25) :
    Calls Tryd.prog 53 #[gv A n c, fv P A1 n1 c1 A2 n2 c2, iv op a b d m] w (ErrsPost (foundE (oneE n P n1 n2 (shpOf op).1 a) (oneE n P n1 n2 (shpOf op).2.1 b) (oneE n P n1 n2 (shpOf op).2.2.1 d) (shpOf op).2.2.2 m) w) := by
  obtain ⟨t0, t1, t2, t3⟩ := hT.out.at_ ho
  have hp := hT.out.pos
  have hp0 : 0 < w.heap.size := by omega
  have hp1 : 0 < w.heap.size := hp
  have hp2 : 0 < w.heap.size + 1 := by omega
  have hp3 : 0 < w.heap.size + 1 + 1 := by omega
  obtain ⟨k1, hk1⟩ : ∃ k, (shpOf (op : Int)).1 = k := ⟨_, rfl⟩
  obtain ⟨k2, hk2⟩ : ∃ k, (shpOf (op : Int)).2.1 = k := ⟨_, rfl⟩
  obtain ⟨k3, hk3⟩ : ∃ k, (shpOf (op : Int)).2.2.1 = k := ⟨_, rfl⟩
  obtain ⟨im, him⟩ : ∃ k, (shpOf (op : Int)).2.2.2 = k := ⟨_, rfl⟩
  rw [hk1] at t0 ⊢
  rw [hk2] at t1 ⊢
  rw [hk3] at t2 ⊢
  rw [him] at t3 ⊢
  clear hk1 hk2 hk3 him
  have c' := fun k x W => chkop_any A n c P A1 n1 c1 A2 n2 c2 k x W
  have C := hide c'
  clear c'
  have hop0 : (0 : Int) ≤ (op : Int) := by omega
  have hop1 : (op : Int) < 25 := by omega
  obtain ⟨W, hW, hbW, hsW, r0, r1, r2, r3⟩ := boxes4 w [.slice A n c] [.int .i64 P, .slice A1 n1 c1, .slice A2 n2 c2] [.int .i64 (op : Int), .int .i64 a, .int .i64 b, .int .i64 d, .int .u64 m] [.int .i64 k1, .int .i64 k2, .int .i64 k3, .bool im] 26 51 47 109
  have HW := hide hW
  have HS := hide hsW
  have HB := hide hbW
  clear hW hsW hbW
  go_enter Tryd.func53, Tryd.ntmps53
  go_wp2_with fail
  rw [HW.out]
  clear HW t0 t1 t2 t3
  have x0 := r0.cell (k := 0) rfl
  have y0 := r1.cell (k := 0) rfl
  have y1 := r1.cell (k := 1) rfl
  have y2 := r1.cell (k := 2) rfl
  have z1 := r2.cell (k := 1) rfl
  have z2 := r2.cell (k := 2) rfl
  have z3 := r2.cell (k := 3) rfl
  have z4 := r2.cell (k := 4) rfl
  have u0 := r3.cell (k := 0) rfl
  have u1 := r3.cell (k := 1) rfl
  have u2 := r3.cell (k := 2) rfl
  have u3 := r3.cell (k := 3) rfl
  clear r0 r1 r2 r3
  go_region_held3 (fun w' => w'.cell? ⟨w.heap.size, 0, none⟩ = some (.slice A n c) ∧ w'.cell? ⟨w.heap.size + 1, 0, none⟩ = some (.int .i64 P) ∧ w'.cell? ⟨w.heap.size + 1, 1, none⟩ = some (.slice A1 n1 c1) ∧ w'.cell? ⟨w.heap.size + 1, 2, none⟩ = some (.slice A2 n2 c2) ∧
      w'.cell? ⟨w.heap.size + 1 + 1, 1, none⟩ = some (.int .i64 a) ∧ w'.cell? ⟨w.heap.size + 1 + 1, 2, none⟩ = some (.int .i64 b) ∧ w'.cell? ⟨w.heap.size + 1 + 1, 3, none⟩ = some (.int .i64 d) ∧ w'.cell? ⟨w.heap.size + 1 + 1, 4, none⟩ = some (.int .u64 m) ∧
      w'.cell? ⟨w.heap.size + 1 + 1 + 1, 0, none⟩ = some (.int .i64 k1) ∧ w'.cell? ⟨w.heap.size + 1 + 1 + 1, 1, none⟩ = some (.int .i64 k2) ∧ w'.cell? ⟨w.heap.size + 1 + 1 + 1, 2, none⟩ = some (.int .i64 k3) ∧ w'.cell? ⟨w.heap.size + 1 + 1 + 1, 3, none⟩ = some (.bool im))
    (first | go_keep | (refine ⟨keep_cellB hb1 ?_, keep_cellB hb1 ?_, keep_cellB hb1 ?_, keep_cellB hb1 ?_, keep_cellB hb1 ?_, keep_cellB hb1 ?_, keep_cellB hb1 ?_, keep_cellB hb1 ?_, keep_cellB hb1 ?_, keep_cellB hb1 ?_, keep_cellB hb1 ?_, keep_cellB hb1 ?_⟩ <;> go_keep))
    (first | (go_at_call 60; refine (C.out _ _ _).mono ?_; rintro e w2 ⟨rfl, hb1⟩))
  rename_i a1 a2 a3 a4 hh
  have hB4 : Below W.heap.size W w2 := (Below.refl W.heap.size W).drew.trans (below_call (below_call a2 a4) hb1)
  have hB0 := hide (HB.out.trans (hB4.mono HB.out.size))
  obtain ⟨-, -, -, -, -, -, -, hz4, -, -, -, hu3⟩ := hh
  have ho := three_new w2 (.int .i64 (oneE n P n1 n2 k1 a)) (.int .i64 (oneE n P n1 n2 k2 b)) (.int .i64 (oneE n P n1 n2 k3 d)) 37 w2.heap.size (Nat.le_refl _)
  have HO := hide ho
  clear hB4 a2 a4 hb1 x0 y0 y1 y2 z1 z2 z3 z4 u0 u1 u2 u3 C ho
  cases im with
  | true =>
    go_wp2_with fail
    go_ret
    exact ⟨some ⟨w2.heap.size, 0, none⟩, 3, rfl, Sees.own HO.out, hB0.out.alloc hB0.out.size _⟩
  | false =>
    by_cases hm : m = 0
    · subst hm
      go_wp2_with fail
      go_ret
      exact ⟨some ⟨w2.heap.size, 0, none⟩, 3, rfl, Sees.own HO.out, hB0.out.alloc hB0.out.size _⟩
    · have hne : (m != 0) = true := by simpa using hm
      have HF := hide (show foundE (oneE n P n1 n2 k1 a) (oneE n P n1 n2 k2 b) (oneE n P n1 n2 k3 d) false m = [oneE n P n1 n2 k1 a, oneE n P n1 n2 k2 b, oneE n P n1 n2 k3 d] ++ [2] by unfold foundE; rw [if_pos ⟨rfl, hm⟩])
      clear hm
      go_wp2_with fail
      go_ret
      unfold ErrsPost
      rw [HF.out]
      refine ⟨some ⟨w2.heap.size + 1 + 1, 0, none⟩, _, rfl, sees_grown _ [_, _, _, _] _ _ ?_, ?_⟩
      · simp
      exact (((hB0.out.alloc hB0.out.size _).alloc (by have := hB0.out.size; simp; omega) _).alloc (by have := hB0.out.size; simp; omega) _).drew
end Go.Proofs.YtlkikjgapingjaaDoor
end
