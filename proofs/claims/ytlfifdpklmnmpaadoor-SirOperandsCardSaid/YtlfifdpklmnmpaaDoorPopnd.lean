/-
  The contracts of sir.within, Terminator, count, checkOperand, and of slices.Index and slices.Contains at error codes. Conditions: those of the types.
-/
import Derived.Test.YtlfifdpklmnmpaaDoorPmem
import Derived.Test.YtlfifdpklmnmpaaDoorLeaf
import Derived.Deep.RegionHeld3
import Derived.Deep.DrawnRows
import Derived.Outline
namespace Go.Proofs.YtlfifdpklmnmpaaDoor
open Go.RowKit

theorem within_any (n m : Int) (w : World) : Calls Tryd.prog 16 #[.int .i64 n, .int .i64 m] w fun e w' => e = .returned (.bool (withB n m)) ∧ w = w' := by
  by_cases h : 0 ≤ n
  · go_enter Tryd.func16, Tryd.ntmps16
    go_wp2_with fail
    go_ret
    exact ⟨ret_bool (by simp [withB, h]), rfl⟩
  · have hd : decide (0 ≤ n) = false := by simpa using h
    go_enter Tryd.func16, Tryd.ntmps16
    go_wp2_with fail
    go_ret
    exact ⟨ret_bool (by simp [withB, hd]), rfl⟩

theorem term_any (op : Int) (w : World) : Calls Tryd.prog 13 #[.int .i64 op] w fun e w' => e = .returned (.bool (termB op)) ∧ w = w' := by
  by_cases h1 : op = 20
  · subst h1
    go_enter Tryd.func13, Tryd.ntmps13
    go_wp2_with fail
    go_ret
    exact ⟨rfl, rfl⟩
  · by_cases h2 : op = 23
    · subst h2
      go_enter Tryd.func13, Tryd.ntmps13
      go_wp2_with fail
      go_ret
      exact ⟨rfl, rfl⟩
    · have b1 : (op == 20) = false := by simpa using h1
      have b2 : (op == 23) = false := by simpa using h2
      have e := hide (show termB op = (op == 24) by simp [termB, b1, b2])
      clear h1 h2
      go_enter Tryd.func13, Tryd.ntmps13
      go_wp2_with fail
      go_ret
      exact ⟨ret_bool e.out.symm, rfl⟩

/-- The same by numbers. -/
def cntR (N : Nat) (P : Int) (n1 n2 : Nat) (k : Int) : Int := if k = 1 then 8 else if k = 2 then n1 else if k = 3 then N else if k = 4 then 8 else if k = 5 then P else if k = 6 then n2 else 1
theorem cntR_eq (N : Nat) (f : Fn) (k : Int) : cntR N f.params f.slots.length f.code.length k = cntV N f k := rfl

set_option maxHeartbeats 400000 in
theorem count_any (A : Option Addr) (n c : Nat) (P : Int) (A1 : Option Addr) (n1 c1 : Nat) (A2 : Option Addr) (n2 c2 : Nat) (k : Int) (w : World) :
    Calls Tryd.prog 33 #[gv A n c, fv P A1 n1 c1 A2 n2 c2, .int .i64 k] w fun e w' => e = .returned (.int .i64 (cntR n P n1 n2 k)) ∧ Below w.heap.size w w' := by
  by_cases h : k = 1 ∨ k = 2 ∨ k = 3 ∨ k = 4 ∨ k = 5 ∨ k = 6
  · rcases h with rfl | rfl | rfl | rfl | rfl | rfl
    all_goals
      go_enter Tryd.func33, Tryd.ntmps33
      go_wp2_with fail
      go_ret
      exact ⟨ret_int (by simp [cntR]), below2 _ _ _⟩
  · have b1 : (k == 1) = false := by simp; omega
    have b2 : (k == 2) = false := by simp; omega
    have b3 : (k == 3) = false := by simp; omega
    have b4 : (k == 4) = false := by simp; omega
    have b5 : (k == 5) = false := by simp; omega
    have b6 : (k == 6) = false := by simp; omega
    have hc := hide (show cntR n P n1 n2 k = 1 by unfold cntR; rw [if_neg (by omega), if_neg (by omega), if_neg (by omega), if_neg (by omega), if_neg (by omega), if_neg (by omega)])
    clear h
    go_enter Tryd.func33, Tryd.ntmps33
    go_wp2_with fail
    go_ret
    exact ⟨ret_int hc.out.symm, below2 _ _ _⟩

/-- The error of one operand, by numbers. -/
def oneE (N : Nat) (P : Int) (n1 n2 : Nat) (k x : Int) : Int := if withB x (cntR N P n1 n2 k) then 0 else if k = 0 then 2 else if k = 6 then 6 else 4
theorem oneE_eq (N : Nat) (f : Fn) (k x : Int) : oneE N f.params f.slots.length f.code.length k x = opndE N f k x := rfl

set_option maxHeartbeats 400000 in
theorem chkop_any (A : Option Addr) (n c : Nat) (P : Int) (A1 : Option Addr) (n1 c1 : Nat) (A2 : Option Addr) (n2 c2 : Nat) (k x : Int) (w : World) :
    Calls Tryd.prog 25 #[gv A n c, fv P A1 n1 c1 A2 n2 c2, .int .i64 k, .int .i64 x] w fun e w' => e = .returned (.int .i64 (oneE n P n1 n2 k x)) ∧ Below w.heap.size w w' := by
  have c1' := fun W => count_any A n c P A1 n1 c1 A2 n2 c2 k W
  have HE := hide (show oneE n P n1 n2 k x = if withB x (cntR n P n1 n2 k) then 0 else if k = 0 then 2 else if k = 6 then 6 else 4 from rfl)
  obtain ⟨m, hm⟩ : ∃ m, cntR n P n1 n2 k = m := ⟨_, rfl⟩
  rw [hm] at c1'
  have HM := hide hm
  have C1 := hide c1'
  have c2' := fun W => within_any x m W
  obtain ⟨b, hb⟩ : ∃ b, withB x m = b := ⟨_, rfl⟩
  rw [hb] at c2'
  have HB := hide hb
  have C2 := hide c2'
  clear hm hb c1' c2'
  cases b with
  | true =>
    go_enter Tryd.func25, Tryd.ntmps25
    go_wp2_with fail
    refine (C1.out _).mono ?_
    rintro e w1 ⟨rfl, hb1⟩
    have HW := hide (below_call (below2 w _ _) hb1)
    clear hb1
    go_wp2_with fail
    refine (C2.out _).mono ?_
    rintro e w2 ⟨rfl, rfl⟩
    go_wp2_with fail
    go_ret
    exact ⟨ret_int (by rw [HE.out, HM.out, HB.out]; rfl), HW.out⟩
  | false =>
    by_cases k0 : k = 0
    · have HR := hide (show oneE n P n1 n2 k x = 2 by rw [HE.out, HM.out, HB.out]; simp [k0])
      clear HE
      subst k0
      go_enter Tryd.func25, Tryd.ntmps25
      go_wp2_with fail
      refine (C1.out _).mono ?_
      rintro e w1 ⟨rfl, hb1⟩
      have HW := hide (below_call (below2 w _ _) hb1)
      clear hb1
      go_wp2_with fail
      refine (C2.out _).mono ?_
      rintro e w2 ⟨rfl, rfl⟩
      go_wp2_with fail
      go_ret
      exact ⟨ret_int HR.out.symm, HW.out⟩
    · by_cases k6 : k = 6
      · have HR := hide (show oneE n P n1 n2 k x = 6 by rw [HE.out, HM.out, HB.out]; simp [k6])
        clear HE k0
        subst k6
        go_enter Tryd.func25, Tryd.ntmps25
        go_wp2_with fail
        refine (C1.out _).mono ?_
        rintro e w1 ⟨rfl, hb1⟩
        have HW := hide (below_call (below2 w _ _) hb1)
        clear hb1
        go_wp2_with fail
        refine (C2.out _).mono ?_
        rintro e w2 ⟨rfl, rfl⟩
        go_wp2_with fail
        go_ret
        exact ⟨ret_int HR.out.symm, HW.out⟩
      · have HR := hide (show oneE n P n1 n2 k x = 4 by rw [HE.out, HM.out, HB.out]; simp [k0, k6])
        have b0 : (k == 0) = false := by simpa using k0
        have b6 : (k == 6) = false := by simpa using k6
        clear HE k0 k6
        go_enter Tryd.func25, Tryd.ntmps25
        go_wp2_with fail
        refine (C1.out _).mono ?_
        rintro e w1 ⟨rfl, hb1⟩
        have HW := hide (below_call (below2 w _ _) hb1)
        clear hb1
        go_wp2_with fail
        refine (C2.out _).mono ?_
        rintro e w2 ⟨rfl, rfl⟩
        go_wp2_with fail
        go_ret
        exact ⟨ret_int HR.out.symm, HW.out⟩

/-- Ints as cells. -/
def cellsE (zs : List Int) : List Value := zs.map (Value.int .i64)
theorem cellsE_length (zs : List Int) : (cellsE zs).length = zs.length := by simp [cellsE]
theorem err_at {w : World} {B : Nat} {A : Option Addr} {zs : List Int} {k : Nat} (h : Sees w B A (cellsE zs)) (hk : k < zs.length) : ∃ b off, A = some ⟨b, off, none⟩ ∧ b < B ∧ w.cell? ⟨b, off + k, none⟩ = some (.int .i64 zs[k]) :=
  h k (.int .i64 zs[k]) (by simp [cellsE, List.getElem?_map, List.getElem?_eq_getElem hk])
def IdxPost (zs : List Int) (x : Int) (w : World) (e : Ending) (w' : World) : Prop := ∃ i : Int, e = .returned (.int .i64 i) ∧ decide (0 ≤ i) = zs.contains x ∧ w = w'
set_option maxHeartbeats 400000 in
theorem eidx_any (A : Option Addr) (n c : Nat) (zs : List Int) (x : Int) (B : Nat) (w : World) (hn : Hid (zs.length = n)) (hm : n ≤ 4611686018427387904) (h : Hid (Sees w B A (cellsE zs))) :
    Calls Tryd.prog 26 #[.slice A n c, .int .i64 x] w (IdxPost zs x w) := by
  go_enter Tryd.func26, Tryd.ntmps26
  go_wp2_with fail
  go_loop [8] (fun i => ∃ k : Nat, k ≤ n ∧ i = .int .i64 k ∧ Hid (∀ j (hj : j < zs.length), j < k → zs[j] ≠ x)) (fun i => n - (intOf i).toNat)
  case atStart => exact ⟨0, by omega, rfl, hide fun j hj h => by omega⟩
  case round =>
    obtain ⟨k, hk, rfl, hno⟩ := hrel
    by_cases hlt : k < n
    · have hltz : (k : Int) < (n : Int) := by omega
      have hkz : (0 : Int) ≤ (k : Int) := by omega
      have hkl : k < zs.length := by have := hn.out; omega
      obtain ⟨b, off, rfl, _, c0⟩ := err_at h.out hkl
      have hit : Hid (zs[k] = x → zs.contains x = true) := hide fun e => by rw [List.contains_iff_mem]; exact e ▸ List.getElem_mem hkl
      obtain ⟨y, hy⟩ : ∃ y, zs[k] = y := ⟨_, rfl⟩
      rw [hy] at c0 hit
      have HY := hide hy
      clear hy
      by_cases hxy : x = y
      · subst hxy
        have hh := hide (hit.out rfl)
        go_wp2_with fail
        go_ret
        exact ⟨_, rfl, by rw [hh.out]; simp, rfl⟩
      · have hne : (x == y) = false := by simpa using hxy
        have hne' : Hid (y ≠ x) := hide fun e => hxy e.symm
        clear hxy hit
        go_wp2_with fail
        go_round
        case rel =>
          refine ⟨k + 1, by omega, by go_num, hide fun j hj hjk => ?_⟩
          by_cases e : j = k
          · subst e; rw [HY.out]; exact hne'.out
          · exact hno.out j hj (by omega)
        case measure => simp [intOf]; omega
    · obtain rfl : k = n := by omega
      have hh : Hid (zs.contains x = false) := hide (by
        rw [Bool.eq_false_iff, ne_eq, List.contains_iff_mem]
        intro hx
        obtain ⟨j, hj, e⟩ := List.mem_iff_getElem.1 hx
        exact hno.out j hj (by have := hn.out; omega) e)
      go_wp2_with fail
      go_ret
      exact ⟨_, rfl, by rw [hh.out]; rfl, rfl⟩
theorem econt_any (A : Option Addr) (n c : Nat) (zs : List Int) (x : Int) (B : Nat) (w : World) (hn : Hid (zs.length = n)) (hm : n ≤ 4611686018427387904) (h : Hid (Sees w B A (cellsE zs))) :
    Calls Tryd.prog 18 #[.slice A n c, .int .i64 x] w fun e w' => e = .returned (.bool (zs.contains x)) ∧ w = w' := by
  go_enter Tryd.func18, Tryd.ntmps18
  go_wp2_with fail
  refine (eidx_any A n c zs x B _ hn hm h).mono ?_
  rintro e w' ⟨i, rfl, hi, rfl⟩
  have HI := hide hi
  clear hi
  go_wp2_with fail
  go_ret
  exact ⟨ret_bool HI.out, rfl⟩
end Go.Proofs.YtlfifdpklmnmpaaDoor
