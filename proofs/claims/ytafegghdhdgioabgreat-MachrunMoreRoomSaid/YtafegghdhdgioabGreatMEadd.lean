import Derived.Test.YtafegghdhdgioabGreatMEmath
import Derived.Test.YtafegghdhdgioabGreatMKit
import Derived.Test.YtafegghdhdgioabGreatMNce
import Derived.Test.YtafegghdhdgioabGreatMInv
import Derived.Deep.RegionHeld3
import Derived.Deep.DrawnRows
import Derived.BigQuiet
import Derived.Outline
set_option linter.unusedVariables false
set_option linter.unusedSimpArgs false
section
/-
  The contracts of extent.bound and Add. Conditions: those of the types.
-/
namespace Go.Proofs.YtafegghdhdgioabGreat
open Go.RowKit

theorem bound_any (n : Int) (w : World) : Calls Tryz.prog 154 #[.int .i64 n] w fun e w' => e = .returned (.bool (bndB n)) ∧ w = w' := by
  go_enter Tryz.func154, Tryz.ntmps154
  by_cases h : 0 ≤ n
  · go_wp2
    go_ret
    exact ⟨ret_bool (by simp [bndB, h]), rfl⟩
  · go_wp2
    go_ret
    exact ⟨ret_bool (by simp [bndB]; omega), rfl⟩

set_option maxHeartbeats 400000 in
theorem add_any (x y : Int) (w : World) : Calls Tryz.prog 148 #[.int .i64 x, .int .i64 y] w fun e w' => e = .returned (.tuple #[.int .i64 (addV x y), .int .i64 (addE x y)]) ∧ w = w' := by
  have cx := bound_any x
  have cy := bound_any y
  cases hx : bndB x with
  | false =>
    obtain ⟨hv, he⟩ := add_bad (x := x) (y := y) (by rw [hx]; rfl)
    rw [hx] at cx
    have Hv := hide hv
    have He := hide he
    clear hx hv he
    go_enter Tryz.func148, Tryz.ntmps148
    go_wp2_with (go_at_call 154; refine (cx _).mono ?_; rintro e w' ⟨rfl, rfl⟩)
    go_ret2
    exact ⟨ret_two Hv.out.symm He.out.symm, rfl⟩
  | true =>
    cases hy : bndB y with
    | false =>
      obtain ⟨hv, he⟩ := add_bad (x := x) (y := y) (by rw [hx, hy]; rfl)
      rw [hx] at cx
      rw [hy] at cy
      have Hv := hide hv
      have He := hide he
      clear hx hy hv he
      go_enter Tryz.func148, Tryz.ntmps148
      go_wp2_with fail
      refine (cx _).mono ?_
      rintro e w' ⟨rfl, rfl⟩
      go_wp2_with fail
      refine (cy _).mono ?_
      rintro e w' ⟨rfl, rfl⟩
      go_wp2_with fail
      go_ret2
      exact ⟨ret_two Hv.out.symm He.out.symm, rfl⟩
    | true =>
      obtain ⟨x0, x1⟩ := bndB_iff.1 hx
      obtain ⟨y0, y1⟩ := bndB_iff.1 hy
      rw [hx] at cx
      rw [hy] at cy
      by_cases hs : x + y ≤ 2147483647
      · obtain ⟨hv, he⟩ := add_ok hx hy hs
        have Hv := hide hv
        have He := hide he
        clear hx hy hv he
        have hg : ¬ (2147483647 - y < x) := by omega
        go_enter Tryz.func148, Tryz.ntmps148
        go_wp2_with fail
        refine (cx _).mono ?_
        rintro e w' ⟨rfl, rfl⟩
        go_wp2_with fail
        refine (cy _).mono ?_
        rintro e w' ⟨rfl, rfl⟩
        go_wp2_with fail
        go_ret2
        exact ⟨ret_two Hv.out.symm He.out.symm, rfl⟩
      · obtain ⟨hv, he⟩ := add_great hx hy (by omega)
        have Hv := hide hv
        have He := hide he
        clear hx hy hv he
        have hg : 2147483647 - y < x := by omega
        go_enter Tryz.func148, Tryz.ntmps148
        go_wp2_with fail
        refine (cx _).mono ?_
        rintro e w' ⟨rfl, rfl⟩
        go_wp2_with fail
        refine (cy _).mono ?_
        rintro e w' ⟨rfl, rfl⟩
        go_wp2_with fail
        go_ret2
        exact ⟨ret_two Hv.out.symm He.out.symm, rfl⟩
end Go.Proofs.YtafegghdhdgioabGreat
end

section
/-
  The contracts of the functions on intervals: extent.right, end, Inside. Conditions: those of the types.
-/
namespace Go.Proofs.YtafegghdhdgioabGreat
open Go.RowKit
attribute [local go_sem ↓] Go.wp_at_zero Go.wp_at_succ

set_option maxHeartbeats 400000 in
theorem right_any (o s : Int) (w : World) : Calls Tryz.prog 139 #[pv o s] w fun e w' => e = .returned (.bool (rightB o s)) ∧ Below w.heap.size w w' := by
  have c := add_any o s
  have hr := hide (rightB_add o s)
  generalize addV o s = v at c
  generalize addE o s = x at c hr
  go_enter Tryz.func139, Tryz.ntmps139
  go_wp2_with fail
  refine (c _).mono ?_
  rintro e w' ⟨rfl, rfl⟩
  go_wp2_with fail
  go_ret
  exact ⟨ret_bool (by rw [← hr.out]; first | rfl | (by_cases h : x = 0 <;> simp [h])), below1 _ _⟩

theorem end_any (o s : Int) (w : World) (h0 : -9223372036854775808 ≤ o + s) (h1 : o + s ≤ 9223372036854775807) : Calls Tryz.prog 140 #[pv o s] w fun e w' => e = .returned (.int .i64 (o + s)) ∧ Below w.heap.size w w' := by
  go_enter Tryz.func140, Tryz.ntmps140
  go_wp2_with fail
  go_ret
  exact ⟨rfl, below1 _ _⟩

theorem inside_any (o s n : Int) (w : World) : Calls Tryz.prog 127 #[pv o s, .int .i64 n] w fun e w' => e = .returned (.bool (insB o s n)) ∧ Below w.heap.size w w' := by
  have c := right_any o s
  have r1 := Row.new w 128 [.int .i64 o, .int .i64 s]
  have f1 := r1.cell (k := 0) rfl
  have f2 := r1.cell (k := 1) rfl
  cases hr : rightB o s with
  | false =>
    rw [hr] at c
    have ho := hide (show insB o s n = false by simp [insB, hr])
    clear hr r1
    go_enter Tryz.func127, Tryz.ntmps127
    go_wp2_with fail
    refine (c _).mono ?_
    rintro e w1 ⟨rfl, hb1⟩
    go_wp2_with fail
    go_ret
    exact ⟨ret_bool ho.out.symm, below_call (below1 _ _) hb1⟩
  | true =>
    rw [hr] at c
    have ho := hide (show insB o s n = decide (o + s ≤ n) by simp [insB, hr])
    obtain ⟨b3, b4, b5⟩ := rightB_iff.1 hr
    clear hr r1
    go_enter Tryz.func127, Tryz.ntmps127
    go_wp2_with fail
    refine (c _).mono ?_
    rintro e w1 ⟨rfl, hb1⟩
    have g1 := keep_cellB hb1 f1
    have g2 := keep_cellB hb1 f2
    go_wp2_with fail
    refine (end_any o s _ (by omega) (by omega)).mono ?_
    rintro e w2 ⟨rfl, hb2⟩
    go_wp2_with fail
    go_ret
    exact ⟨ret_bool ho.out.symm, below_call (below_call (below1 _ _) hb1) hb2⟩

end Go.Proofs.YtafegghdhdgioabGreat
end

section
/-
  The contract of the reference's Size. Conditions: those of the types.
-/
namespace Go.Proofs.YtafegghdhdgioabGreat
open Go.RowKit

set_option maxHeartbeats 400000 in
theorem rsz_1 (w : World) : Calls Tryz.prog 84 #[.int .i64 1] w fun e w' => e = .returned (.bool true) ∧ w = w' := by
  go_enter Tryz.func84, Tryz.ntmps84
  go_wp2
  go_ret
  exact ⟨rfl, rfl⟩
set_option maxHeartbeats 400000 in
theorem rsz_2 (w : World) : Calls Tryz.prog 84 #[.int .i64 2] w fun e w' => e = .returned (.bool true) ∧ w = w' := by
  go_enter Tryz.func84, Tryz.ntmps84
  go_wp2
  go_ret
  exact ⟨rfl, rfl⟩
set_option maxHeartbeats 400000 in
theorem rsz_4 (w : World) : Calls Tryz.prog 84 #[.int .i64 4] w fun e w' => e = .returned (.bool true) ∧ w = w' := by
  go_enter Tryz.func84, Tryz.ntmps84
  go_wp2
  go_ret
  exact ⟨rfl, rfl⟩
set_option maxHeartbeats 400000 in
theorem rsz_8 (w : World) : Calls Tryz.prog 84 #[.int .i64 8] w fun e w' => e = .returned (.bool true) ∧ w = w' := by
  go_enter Tryz.func84, Tryz.ntmps84
  go_wp2
  go_ret
  exact ⟨rfl, rfl⟩
set_option maxHeartbeats 400000 in
theorem rsz_16 (w : World) : Calls Tryz.prog 84 #[.int .i64 16] w fun e w' => e = .returned (.bool true) ∧ w = w' := by
  go_enter Tryz.func84, Tryz.ntmps84
  go_wp2
  go_ret
  exact ⟨rfl, rfl⟩
set_option maxHeartbeats 400000 in
theorem rsz_none (n : Int) (w : World) (h : szB n = false) : Calls Tryz.prog 84 #[.int .i64 n] w fun e w' => e = .returned (.bool false) ∧ w = w' := by
  have hn := of_decide_eq_false h
  have o1 : (n == 1) = false := by rw [beq_eq_false_iff_ne]; omega
  have o2 : (n == 2) = false := by rw [beq_eq_false_iff_ne]; omega
  have o4 : (n == 4) = false := by rw [beq_eq_false_iff_ne]; omega
  have o8 : (n == 8) = false := by rw [beq_eq_false_iff_ne]; omega
  have o16 : (n == 16) = false := by rw [beq_eq_false_iff_ne]; omega
  clear hn h
  go_enter Tryz.func84, Tryz.ntmps84
  go_wp2
  go_ret
  exact ⟨rfl, rfl⟩
theorem rsz_any (n : Int) (w : World) : Calls Tryz.prog 84 #[.int .i64 n] w fun e w' => e = .returned (.bool (szB n)) ∧ w = w' := by
  by_cases h : szB n = true
  · rw [h]
    have hn := of_decide_eq_true h
    rcases hn with rfl | rfl | rfl | rfl | rfl
    · exact rsz_1 w
    · exact rsz_2 w
    · exact rsz_4 w
    · exact rsz_8 w
    · exact rsz_16 w
  · have h : szB n = false := by simpa using h
    rw [h]
    exact rsz_none n w h

end Go.Proofs.YtafegghdhdgioabGreat
end

section
/-
  The contracts of the small functions of package stack: Check, used, fits, clone; slices.Index, Contains and Clone at truth values; the reference's Check, Copy, right, used. Conditions: those of the types; the stack is one for which Check is true.
-/
namespace Go.Proofs.YtafegghdhdgioabGreat
open Go.RowKit
attribute [local go_sem ↓] Go.wp_at_zero Go.wp_at_succ

/-- Check, of anything. -/
def ckB (n1 n2 : Nat) (p : Int) : Bool := decide (n1 = n2 ∧ n1 ≤ 1048576 ∧ 0 ≤ p ∧ p ≤ (n1 : Int))
theorem ckB_ok {S : Sk} (h : S.Ok) : ckB S.bs.length S.bs.length (S.sp : Int) = true := by
  simp only [ckB, decide_eq_true_eq]
  exact ⟨trivial, h.most, by omega, by have := h.sp; omega⟩

set_option maxHeartbeats 1000000 in
theorem check_stk (A1 : Option Addr) (n1 c1 : Nat) (A2 : Option Addr) (n2 c2 : Nat) (p : Int) (w : World) (h1 : n1 ≤ 9223372036854775807) (h2 : n2 ≤ 9223372036854775807) :
    Calls Tryz.prog 94 #[kv A1 n1 c1 A2 n2 c2 p] w fun e w' => e = .returned (.bool (ckB n1 n2 p)) ∧ Below w.heap.size w w' := by
  have f0 := (Row.new w 68 [.slice A1 n1 c1, .slice A2 n2 c2, .int .i64 p]).cell (k := 0) rfl
  have f1 := (Row.new w 68 [.slice A1 n1 c1, .slice A2 n2 c2, .int .i64 p]).cell (k := 1) rfl
  have f2 := (Row.new w 68 [.slice A1 n1 c1, .slice A2 n2 c2, .int .i64 p]).cell (k := 2) rfl
  go_enter Tryz.func94, Tryz.ntmps94
  by_cases e1 : n1 = n2
  · subst e1
    by_cases e2 : (n1 : Int) ≤ 1048576
    · by_cases e3 : 0 ≤ p
      · go_wp2_with fail
        go_ret
        exact ⟨ret_bool (by simp [ckB, e3]; omega), below1 _ _⟩
      · go_wp2_with fail
        go_ret
        exact ⟨ret_bool (by simp only [ckB]; symm; simp only [decide_eq_false_iff_not]; omega), below1 _ _⟩
    · go_wp2_with fail
      go_ret
      exact ⟨ret_bool (by simp only [ckB]; symm; simp only [decide_eq_false_iff_not]; omega), below1 _ _⟩
  · have e1' : ¬ ((n1 : Int) = (n2 : Int)) := by omega
    go_wp2_with fail
    go_ret
    exact ⟨ret_bool (by simp [ckB, e1]), below1 _ _⟩

set_option maxHeartbeats 1000000 in
theorem index_any (A : Option Addr) (n c : Nat) (bs : List Bool) (B : Nat) (w : World) (hn : Hid (bs.length = n)) (hm : n ≤ 1048576) (hs : Hid (Sees w B A (cellsB bs))) :
    Calls Tryz.prog 149 #[.slice A n c, .bool false] w fun e w' => (∃ v : Int, e = .returned (.int .i64 v) ∧ Hid (decide (0 ≤ v) = !(bs.all id))) ∧ w = w' := by
  go_enter Tryz.func149, Tryz.ntmps149
  go_wp2_with fail
  go_loop [8] (fun i => ∃ k : Nat, k ≤ n ∧ i = .int .i64 (k : Int) ∧ Hid (∀ j, j < k → bs[j]? = some true)) (fun i => n - (intOf i).toNat)
  case atStart => exact ⟨0, by omega, rfl, hide (fun j h => by omega)⟩
  case round =>
    obtain ⟨k, hk, rfl, hb⟩ := hrel
    by_cases hlt : k < n
    · have hlb : k < bs.length := by have := hn.out; omega
      obtain ⟨b, off, rfl, hbB, hcell⟩ := hs.out k (.bool bs[k]) (cellsB_at (List.getElem?_eq_getElem hlb))
      obtain ⟨z, hz⟩ : ∃ z, bs[k] = z := ⟨_, rfl⟩
      rw [hz] at hcell
      have hx : bs[k]? = some z := by rw [List.getElem?_eq_getElem hlb, hz]
      have HX := hide hx
      clear hz hx
      cases z with
      | true =>
        have hnext := hide (show ∀ j, j < k + 1 → bs[j]? = some true from fun j hj => by
          rcases Nat.lt_or_ge j k with h | h
          · exact hb.out j h
          · rw [show j = k by omega]; exact HX.out)
        go_wp2_with fail
        exact ⟨⟨k + 1, by omega, by go_num, hnext⟩, by simp [intOf]; omega⟩
      | false =>
        have hall : bs.all id = false := by
          rw [List.all_eq_false]
          exact ⟨false, List.mem_of_getElem? HX.out, by simp⟩
        have HA := hide hall
        clear hall
        go_wp2_with fail
        go_ret
        exact ⟨⟨_, rfl, hide (by rw [HA.out]; simp)⟩, rfl⟩
    · have hall : bs.all id = true := by
        rw [List.all_eq_true]
        intro x hx
        obtain ⟨j, hj, e⟩ := List.getElem_of_mem hx
        have := hb.out j (by have := hn.out; omega)
        rw [List.getElem?_eq_getElem hj, e] at this
        injection this
      have HA := hide hall
      clear hall
      go_wp2_with fail
      go_ret
      exact ⟨⟨_, rfl, hide (by rw [HA.out]; simp)⟩, rfl⟩
theorem contains_any (A : Option Addr) (n c : Nat) (bs : List Bool) (B : Nat) (w : World) (hn : Hid (bs.length = n)) (hm : n ≤ 1048576) (hs : Hid (Sees w B A (cellsB bs))) :
    Calls Tryz.prog 141 #[.slice A n c, .bool false] w fun e w' => e = .returned (.bool (!(bs.all id))) ∧ w = w' := by
  have ci := index_any A n c bs B w hn hm hs
  go_enter Tryz.func141, Tryz.ntmps141
  go_wp2_with fail
  refine ci.mono ?_
  rintro e w' ⟨⟨v, rfl, hv⟩, rfl⟩
  go_wp2_with fail
  go_ret
  exact ⟨ret_bool hv.out, rfl⟩
end Go.Proofs.YtafegghdhdgioabGreat
end
