import Derived.Test.YtipjeihfhnilcaaDoorMZrow
import Derived.Test.YtipjeihfhnilcaaDoorMEpw
import Derived.Test.YtipjeihfhnilcaaDoorMKit
import Derived.Test.YtipjeihfhnilcaaDoorMZshf
import Derived.Outline
import Derived.Deep.RegionHeld3
import Derived.Deep.DrawnRows
import Derived.Laws.AppendOwn
set_option linter.unusedVariables false
set_option linter.unusedSimpArgs false
section
/-
  The contract of extent.Slots; what it and Align give. Conditions: those of the types; fewer than 2^62 slots.
-/
namespace Go.Proofs.YtipjeihfhnilcaaDoor
open Go.RowKit

set_option maxHeartbeats 400000 in
theorem slots_any' (A : Option Addr) (n c : Nat) (l : List (Int × Int)) (w : World) (hn : Hid (l.length = n)) (hm : n ≤ 4611686018427387904) (hs : Hid (Sees w w.heap.size A (pcells l))) :
    Calls Tryd.prog 46 #[.slice A n c] w fun e w' => e = .returned (.int .i64 (slotsE l)) ∧ Below w.heap.size w w' := by
  by_cases h : n ≤ 512
  · have hc := scont_any A n c l w hn hm hs
    have he := hide (slotsE_few (l := l) (by have := hn.out; omega))
    obtain ⟨b, hb⟩ : ∃ b, l.any (fun u => !slotB u.1 u.2) = b := ⟨_, rfl⟩
    rw [hb] at hc he
    clear hb
    cases b with
    | true =>
      go_enter Tryd.func46, Tryd.ntmps46
      go_wp2_with fail
      refine hc.mono ?_
      rintro e w1 ⟨rfl, hb1⟩
      go_wp2_with fail
      go_ret
      exact ⟨ret_int (by rw [he.out]; rfl), hb1⟩
    | false =>
      go_enter Tryd.func46, Tryd.ntmps46
      go_wp2_with fail
      refine hc.mono ?_
      rintro e w1 ⟨rfl, hb1⟩
      go_wp2_with fail
      go_ret
      exact ⟨ret_int (by rw [he.out]; rfl), hb1⟩
  · have he := hide (slotsE_many (l := l) (by have := hn.out; omega))
    go_enter Tryd.func46, Tryd.ntmps46
    go_wp2_with fail
    go_ret
    exact ⟨ret_int he.out.symm, Below.refl _ _⟩

end Go.Proofs.YtipjeihfhnilcaaDoor
end

section
/-
  The contract of sir.Terminator. No condition.
-/
namespace Go.Proofs.YtipjeihfhnilcaaDoor
open Go.RowKit

theorem term_any (op : Int) (w : World) : Calls Tryd.prog 62 #[.int .i64 op] w fun e w' => e = .returned (.bool (termB op)) ∧ w = w' := by
  by_cases h1 : op = 20
  · subst h1
    go_enter Tryd.func62, Tryd.ntmps62
    go_wp2_with fail
    go_ret
    exact ⟨rfl, rfl⟩
  · by_cases h2 : op = 23
    · subst h2
      go_enter Tryd.func62, Tryd.ntmps62
      go_wp2_with fail
      go_ret
      exact ⟨rfl, rfl⟩
    · have b1 : (op == 20) = false := by simpa using h1
      have b2 : (op == 23) = false := by simpa using h2
      have e := hide (show termB op = (op == 24) by simp [termB, b1, b2])
      clear h1 h2
      go_enter Tryd.func62, Tryd.ntmps62
      go_wp2_with fail
      go_ret
      exact ⟨ret_bool e.out.symm, rfl⟩
end Go.Proofs.YtipjeihfhnilcaaDoor
end

section
/-
  The contracts of slices.Index and slices.Contains at error codes. Conditions: those of the types.
-/
namespace Go.Proofs.YtipjeihfhnilcaaDoor
open Go.RowKit

/-- Ints as cells. -/
def cellsE (zs : List Int) : List Value := zs.map (Value.int .i64)
theorem cellsE_length (zs : List Int) : (cellsE zs).length = zs.length := by simp [cellsE]
theorem err_at {w : World} {B : Nat} {A : Option Addr} {zs : List Int} {k : Nat} (h : Sees w B A (cellsE zs)) (hk : k < zs.length) : ∃ b off, A = some ⟨b, off, none⟩ ∧ b < B ∧ w.cell? ⟨b, off + k, none⟩ = some (.int .i64 zs[k]) :=
  h k (.int .i64 zs[k]) (by simp [cellsE, List.getElem?_map, List.getElem?_eq_getElem hk])
def IdxPost (zs : List Int) (x : Int) (w : World) (e : Ending) (w' : World) : Prop := ∃ i : Int, e = .returned (.int .i64 i) ∧ decide (0 ≤ i) = zs.contains x ∧ w = w'
set_option maxHeartbeats 400000 in
theorem eidx_any (A : Option Addr) (n c : Nat) (zs : List Int) (x : Int) (B : Nat) (w : World) (hn : Hid (zs.length = n)) (hm : n ≤ 4611686018427387904) (h : Hid (Sees w B A (cellsE zs))) :
    Calls Tryd.prog 68 #[.slice A n c, .int .i64 x] w (IdxPost zs x w) := by
  go_enter Tryd.func68, Tryd.ntmps68
  go_wp2_with fail
  go_loop [8] (fun i => ∃ k : Nat, k ≤ n ∧ i = .int .i64 k ∧ Hid (∀ j (hj : j < zs.length), j < k → zs[j] ≠ x)) (fun i => n - (intOf i).toNat)
  case atStart => exact ⟨0, by omega, rfl, hide fun j hj h => by omega⟩
  case round =>
    obtain ⟨k, hk, rfl, hno⟩ := hrel
    by_cases hlt : k < n
    · have hltz : (k : Int) < (n : Int) := by omega
      have hkz : (0 : Int) ≤ (k : Int) := by omega
      have hkl : k < zs.length := by have := hn.out; omega
      obtain ⟨b, off, rfl, _, c0⟩ := err_at h.out hkl
      have hit : Hid (zs[k] = x → zs.contains x = true) := hide fun e => by rw [List.contains_iff_mem]; exact e ▸ List.getElem_mem hkl
      obtain ⟨y, hy⟩ : ∃ y, zs[k] = y := ⟨_, rfl⟩
      rw [hy] at c0 hit
      have HY := hide hy
      clear hy
      by_cases hxy : x = y
      · subst hxy
        have hh := hide (hit.out rfl)
        go_wp2_with fail
        go_ret
        exact ⟨_, rfl, by rw [hh.out]; simp, rfl⟩
      · have hne : (x == y) = false := by simpa using hxy
        have hne' : Hid (y ≠ x) := hide fun e => hxy e.symm
        clear hxy hit
        go_wp2_with fail
        go_round
        case rel =>
          refine ⟨k + 1, by omega, by go_num, hide fun j hj hjk => ?_⟩
          by_cases e : j = k
          · subst e; rw [HY.out]; exact hne'.out
          · exact hno.out j hj (by omega)
        case measure => simp [intOf]; omega
    · obtain rfl : k = n := by omega
      have hh : Hid (zs.contains x = false) := hide (by
        rw [Bool.eq_false_iff, ne_eq, List.contains_iff_mem]
        intro hx
        obtain ⟨j, hj, e⟩ := List.mem_iff_getElem.1 hx
        exact hno.out j hj (by have := hn.out; omega) e)
      go_wp2_with fail
      go_ret
      exact ⟨_, rfl, by rw [hh.out]; rfl, rfl⟩
theorem econt_any (A : Option Addr) (n c : Nat) (zs : List Int) (x : Int) (B : Nat) (w : World) (hn : Hid (zs.length = n)) (hm : n ≤ 4611686018427387904) (h : Hid (Sees w B A (cellsE zs))) :
    Calls Tryd.prog 61 #[.slice A n c, .int .i64 x] w fun e w' => e = .returned (.bool (zs.contains x)) ∧ w = w' := by
  go_enter Tryd.func61, Tryd.ntmps61
  go_wp2_with fail
  refine (eidx_any A n c zs x B _ hn hm h).mono ?_
  rintro e w' ⟨i, rfl, hi, rfl⟩
  have HI := hide hi
  clear hi
  go_wp2_with fail
  go_ret
  exact ⟨ret_bool HI.out, rfl⟩
end Go.Proofs.YtipjeihfhnilcaaDoor
end

section
/-
  The contracts of sir.within, count, checkOperand, and of slices.Index and slices.Contains at error codes. Conditions: those of the types.
-/
namespace Go.Proofs.YtipjeihfhnilcaaDoor
open Go.RowKit

theorem within_any (n m : Int) (w : World) : Calls Tryd.prog 45 #[.int .i64 n, .int .i64 m] w fun e w' => e = .returned (.bool (withB n m)) ∧ w = w' := by
  by_cases h : 0 ≤ n
  · go_enter Tryd.func45, Tryd.ntmps45
    go_wp2_with fail
    go_ret
    exact ⟨ret_bool (by simp [withB, h]), rfl⟩
  · have hd : decide (0 ≤ n) = false := by simpa using h
    go_enter Tryd.func45, Tryd.ntmps45
    go_wp2_with fail
    go_ret
    exact ⟨ret_bool (by simp [withB, hd]), rfl⟩

/-- The same by numbers. -/
def cntR (N : Nat) (P : Int) (n1 n2 : Nat) (k : Int) : Int := if k = 1 then 8 else if k = 2 then n1 else if k = 3 then N else if k = 4 then 8 else if k = 5 then P else if k = 6 then n2 else 1
theorem cntR_eq (N : Nat) (f : Fn) (k : Int) : cntR N f.params f.slots.length f.code.length k = cntV N f k := rfl

set_option maxHeartbeats 400000 in
theorem count_any (A : Option Addr) (n c : Nat) (P : Int) (A1 : Option Addr) (n1 c1 : Nat) (A2 : Option Addr) (n2 c2 : Nat) (k : Int) (w : World) :
    Calls Tryd.prog 75 #[gv A n c, fv P A1 n1 c1 A2 n2 c2, .int .i64 k] w fun e w' => e = .returned (.int .i64 (cntR n P n1 n2 k)) ∧ Below w.heap.size w w' := by
  by_cases h : k = 1 ∨ k = 2 ∨ k = 3 ∨ k = 4 ∨ k = 5 ∨ k = 6
  · rcases h with rfl | rfl | rfl | rfl | rfl | rfl
    all_goals
      go_enter Tryd.func75, Tryd.ntmps75
      go_wp2_with fail
      go_ret
      exact ⟨ret_int (by simp [cntR]), below2 _ _ _⟩
  · have b1 : (k == 1) = false := by simp; omega
    have b2 : (k == 2) = false := by simp; omega
    have b3 : (k == 3) = false := by simp; omega
    have b4 : (k == 4) = false := by simp; omega
    have b5 : (k == 5) = false := by simp; omega
    have b6 : (k == 6) = false := by simp; omega
    have hc := hide (show cntR n P n1 n2 k = 1 by unfold cntR; rw [if_neg (by omega), if_neg (by omega), if_neg (by omega), if_neg (by omega), if_neg (by omega), if_neg (by omega)])
    clear h
    go_enter Tryd.func75, Tryd.ntmps75
    go_wp2_with fail
    go_ret
    exact ⟨ret_int hc.out.symm, below2 _ _ _⟩

/-- The error of one operand, by numbers. -/
def oneE (N : Nat) (P : Int) (n1 n2 : Nat) (k x : Int) : Int := if withB x (cntR N P n1 n2 k) then 0 else if k = 0 then 2 else if k = 6 then 6 else 4
theorem oneE_eq (N : Nat) (f : Fn) (k x : Int) : oneE N f.params f.slots.length f.code.length k x = opndE N f k x := rfl

set_option maxHeartbeats 400000 in
theorem chkop_any (A : Option Addr) (n c : Nat) (P : Int) (A1 : Option Addr) (n1 c1 : Nat) (A2 : Option Addr) (n2 c2 : Nat) (k x : Int) (w : World) :
    Calls Tryd.prog 67 #[gv A n c, fv P A1 n1 c1 A2 n2 c2, .int .i64 k, .int .i64 x] w fun e w' => e = .returned (.int .i64 (oneE n P n1 n2 k x)) ∧ Below w.heap.size w w' := by
  have c1' := fun W => count_any A n c P A1 n1 c1 A2 n2 c2 k W
  have HE := hide (show oneE n P n1 n2 k x = if withB x (cntR n P n1 n2 k) then 0 else if k = 0 then 2 else if k = 6 then 6 else 4 from rfl)
  obtain ⟨m, hm⟩ : ∃ m, cntR n P n1 n2 k = m := ⟨_, rfl⟩
  rw [hm] at c1'
  have HM := hide hm
  have C1 := hide c1'
  have c2' := fun W => within_any x m W
  obtain ⟨b, hb⟩ : ∃ b, withB x m = b := ⟨_, rfl⟩
  rw [hb] at c2'
  have HB := hide hb
  have C2 := hide c2'
  clear hm hb c1' c2'
  cases b with
  | true =>
    go_enter Tryd.func67, Tryd.ntmps67
    go_wp2_with fail
    refine (C1.out _).mono ?_
    rintro e w1 ⟨rfl, hb1⟩
    have HW := hide (below_call (below2 w _ _) hb1)
    clear hb1
    go_wp2_with fail
    refine (C2.out _).mono ?_
    rintro e w2 ⟨rfl, rfl⟩
    go_wp2_with fail
    go_ret
    exact ⟨ret_int (by rw [HE.out, HM.out, HB.out]; rfl), HW.out⟩
  | false =>
    by_cases k0 : k = 0
    · have HR := hide (show oneE n P n1 n2 k x = 2 by rw [HE.out, HM.out, HB.out]; simp [k0])
      clear HE
      subst k0
      go_enter Tryd.func67, Tryd.ntmps67
      go_wp2_with fail
      refine (C1.out _).mono ?_
      rintro e w1 ⟨rfl, hb1⟩
      have HW := hide (below_call (below2 w _ _) hb1)
      clear hb1
      go_wp2_with fail
      refine (C2.out _).mono ?_
      rintro e w2 ⟨rfl, rfl⟩
      go_wp2_with fail
      go_ret
      exact ⟨ret_int HR.out.symm, HW.out⟩
    · by_cases k6 : k = 6
      · have HR := hide (show oneE n P n1 n2 k x = 6 by rw [HE.out, HM.out, HB.out]; simp [k6])
        clear HE k0
        subst k6
        go_enter Tryd.func67, Tryd.ntmps67
        go_wp2_with fail
        refine (C1.out _).mono ?_
        rintro e w1 ⟨rfl, hb1⟩
        have HW := hide (below_call (below2 w _ _) hb1)
        clear hb1
        go_wp2_with fail
        refine (C2.out _).mono ?_
        rintro e w2 ⟨rfl, rfl⟩
        go_wp2_with fail
        go_ret
        exact ⟨ret_int HR.out.symm, HW.out⟩
      · have HR := hide (show oneE n P n1 n2 k x = 4 by rw [HE.out, HM.out, HB.out]; simp [k0, k6])
        have b0 : (k == 0) = false := by simpa using k0
        have b6 : (k == 6) = false := by simpa using k6
        clear HE k0 k6
        go_enter Tryd.func67, Tryd.ntmps67
        go_wp2_with fail
        refine (C1.out _).mono ?_
        rintro e w1 ⟨rfl, hb1⟩
        have HW := hide (below_call (below2 w _ _) hb1)
        clear hb1
        go_wp2_with fail
        refine (C2.out _).mono ?_
        rintro e w2 ⟨rfl, rfl⟩
        go_wp2_with fail
        go_ret
        exact ⟨ret_int HR.out.symm, HW.out⟩

end Go.Proofs.YtipjeihfhnilcaaDoor
end

section
/-
  Lists of error codes of a call's own. No function of the program is named here.
-/
namespace Go.Proofs.YtipjeihfhnilcaaDoor
open Go.RowKit

theorem Tryd.info37 : (Tryd.prog.info? 37).map (fun i => (i.zero, i.size, i.bytes)) = some (some (.int .i64 0), 1, 8) := by kernel_rfl
/-- A list of error codes of the call's own. -/
def ErrsPost (zs : List Int) (w : World) (e : Ending) (w' : World) : Prop := ∃ (A : Option Addr) (c : Nat), e = .returned (.slice A zs.length c) ∧ Sees w' w'.heap.size A (cellsE zs) ∧ Below w.heap.size w w'
theorem three_new (w : World) (x y z : Value) (t : TypeId) (B : Nat) (hB : B ≤ w.heap.size) : (w.alloc (.cells #[x, y, z] t)).ownsRow B t 1 (.slice (some ⟨w.heap.size, 0, none⟩) 3 3) 3 [x, y, z] :=
  ⟨rfl, .inr ⟨w.heap.size, 3, #[x, y, z], rfl, hB, heap_alloc_new w _, by omega, by unfold maxLen; omega, rfl, rfl⟩⟩
theorem own_sees {w : World} {B : Nat} {t : TypeId} {v : Value} {n : Nat} {xs : List Value} (h : w.ownsRow B t 1 v n xs) : ∃ A c, v = .slice A n c ∧ Sees w w.heap.size A xs := by
  obtain ⟨A, c, rfl, _, _⟩ := own_form h
  exact ⟨A, c, rfl, Sees.own h⟩

theorem sees_grown (w : World) (xs : List Value) (t : TypeId) (r : Array Value) {k : Nat} (hk : k = w.heap.size) : Sees (w.alloc (.cells (xs.toArray ++ r) t)).drew (w.alloc (.cells (xs.toArray ++ r) t)).drew.heap.size (some ⟨k, 0, none⟩) xs := fun j u hj => by
  subst hk
  refine ⟨w.heap.size, 0, rfl, by show w.heap.size < (w.alloc _).heap.size; simp, ?_⟩
  show (w.alloc (.cells (xs.toArray ++ r) t)).cell? _ = _
  have h := (Row.new w t (xs ++ r.toList)).cell (k := 0 + j) (v := u) (by
    rw [Nat.zero_add]
    have hl : j < xs.length := by
      rcases Nat.lt_or_ge j xs.length with h1 | h1
      · exact h1
      · rw [List.getElem?_eq_none h1] at hj; cases hj
    rw [List.getElem?_append_left hl]; exact hj)
  have e : (xs ++ r.toList).toArray = xs.toArray ++ r := by simp
  rw [e] at h
  exact h
end Go.Proofs.YtipjeihfhnilcaaDoor
end
