import Derived.Test.YtafegghdhdgioaaDoorMJmath
import Derived.Test.YtafegghdhdgioaaDoorMQputi
import Derived.Test.YtafegghdhdgioaaDoorMPeqm
import Derived.Test.YtafegghdhdgioaaDoorMPmath
set_option linter.unusedVariables false
set_option linter.unusedSimpArgs false
section
/-
  The reference's PutInstr, for the instructions of a target. Conditions: those of the types; the instruction can be written.
-/
namespace Go.Proofs.YtafegghdhdgioaaDoor
open Go.RowKit

theorem mshapes_of {z : Int} (h0 : 0 ≤ z) (h1 : z < 25) : (mA z = true ∧ mB z = true ∧ mC z = true ∧ mI z = false) ∨ (mA z = true ∧ mB z = true ∧ mC z = false ∧ mI z = false) ∨ (mA z = true ∧ mB z = false ∧ mC z = false ∧ mI z = false) ∨ (mA z = true ∧ mB z = false ∧ mC z = false ∧ mI z = true) ∨ (mA z = false ∧ mB z = false ∧ mC z = false ∧ mI z = true) ∨ (mA z = false ∧ mB z = false ∧ mC z = false ∧ mI z = false) := by
  rcases m25 h0 h1 with rfl | rfl | rfl | rfl | rfl | rfl | rfl | rfl | rfl | rfl | rfl | rfl | rfl | rfl | rfl | rfl | rfl | rfl | rfl | rfl | rfl | rfl | rfl | rfl | rfl <;> decide
theorem rputm_any (A : Option Addr) (n c : Nat) (zs : List Int) (x : Ins) (B : Nat) (w : World) (hA : Hid (A = none → c = 0)) (hnc : Hid (n ≤ c)) (hn : Hid (zs.length = n)) (hm : n ≤ 1073741824) (hs : Hid (Sees w B A (cellsU8 zs))) (hB : Hid (B ≤ w.heap.size)) (hx : Hid (MInsW x)) :
    Calls Tryd.prog 44 #[.slice A n c, iv x.op x.a x.b x.c x.imm, .bool (mA x.op), .bool (mB x.op), .bool (mC x.op), .bool (mI x.op)] w fun e w' => ∃ r l, e = .returned r ∧ l = n + (minsY x).length ∧ w'.ownsRow w.heap.size 5 1 r l (cellsU8 (zs ++ minsY x)) ∧ Below w.heap.size w w' := by
  have h := hx.out
  obtain ⟨o, a, p, d, m⟩ := x
  have h1 := h.o
  have h2 := h.a
  have h3 := h.b
  have h4 := h.c
  have h5 := h.m
  simp only at h1 h2 h3 h4 h5
  have hl : ∀ ua ub uc ui : Bool, n + 1 + (opsY ua ub uc ui ⟨o, a, p, d, m⟩).length = n + (o :: opsY ua ub uc ui ⟨o, a, p, d, m⟩).length := fun _ _ _ _ => by simp; omega
  unfold minsY
  simp only
  rcases mshapes_of h1.1 h1.2 with ⟨a1, a2, a3, a4⟩ | ⟨a1, a2, a3, a4⟩ | ⟨a1, a2, a3, a4⟩ | ⟨a1, a2, a3, a4⟩ | ⟨a1, a2, a3, a4⟩ | ⟨a1, a2, a3, a4⟩
  · rw [a1, a2, a3, a4]
    exact (rputi_aaa A n c zs o a p d m B w hA hnc hn hm hs hB h1.1 (by omega) h2 h3 h4 h5).mono fun e w' ⟨r, l, e1, e2, e3, e4⟩ => ⟨r, l, e1, by rw [e2]; exact hl _ _ _ _, e3, e4⟩
  · rw [a1, a2, a3, a4]
    exact (rputi_aa A n c zs o a p d m B w hA hnc hn hm hs hB h1.1 (by omega) h2 h3 h4 h5).mono fun e w' ⟨r, l, e1, e2, e3, e4⟩ => ⟨r, l, e1, by rw [e2]; exact hl _ _ _ _, e3, e4⟩
  · rw [a1, a2, a3, a4]
    exact (rputi_a A n c zs o a p d m B w hA hnc hn hm hs hB h1.1 (by omega) h2 h3 h4 h5).mono fun e w' ⟨r, l, e1, e2, e3, e4⟩ => ⟨r, l, e1, by rw [e2]; exact hl _ _ _ _, e3, e4⟩
  · rw [a1, a2, a3, a4]
    exact (rputi_ai A n c zs o a p d m B w hA hnc hn hm hs hB h1.1 (by omega) h2 h3 h4 h5).mono fun e w' ⟨r, l, e1, e2, e3, e4⟩ => ⟨r, l, e1, by rw [e2]; exact hl _ _ _ _, e3, e4⟩
  · rw [a1, a2, a3, a4]
    exact (rputi_i A n c zs o a p d m B w hA hnc hn hm hs hB h1.1 (by omega) h2 h3 h4 h5).mono fun e w' ⟨r, l, e1, e2, e3, e4⟩ => ⟨r, l, e1, by rw [e2]; exact hl _ _ _ _, e3, e4⟩
  · rw [a1, a2, a3, a4]
    exact (rputi_o A n c zs o a p d m B w hA hnc hn hm hs hB h1.1 (by omega) h2 h3 h4 h5).mono fun e w' ⟨r, l, e1, e2, e3, e4⟩ => ⟨r, l, e1, by rw [e2]; exact hl _ _ _ _, e3, e4⟩
end Go.Proofs.YtafegghdhdgioaaDoor
end

section
/-
  A target instruction's error in the order in which the reference looks for it. No function of the program is named here.
-/
namespace Go.Proofs.YtafegghdhdgioaaDoor
open Go.RowKit

/-- Which operands an operation of the target uses. -/
def muA (o : Int) : Bool := !decide ((mshpOf o).1 = 0)
def muB (o : Int) : Bool := !decide ((mshpOf o).2.1 = 0)
def muC (o : Int) : Bool := !decide ((mshpOf o).2.2.1 = 0)
def muI (o : Int) : Bool := (mshpOf o).2.2.2
def memB (o : Int) : Bool := decide (o = 15) || decide (o = 16) || decide (o = 17)
/-- A register or a function that there is. -/
def okM (N k n : Int) : Bool := if k = 1 then withB n 8 else if k = 4 then withB n N else true
def namB (N : Int) (x : Ins) : Bool := okM N (mshpOf x.op).1 x.a && (okM N (mshpOf x.op).2.1 x.b && okM N (mshpOf x.op).2.2.1 x.c)
/-- An operand that is not used is not 0. -/
def fmtB (x : Ins) : Bool := (!muA x.op && x.a != 0) || ((!muB x.op && x.b != 0) || ((!muC x.op && x.c != 0) || (!muI x.op && x.imm != 0)))
def tarB (C : Int) (x : Ins) : Bool := (decide (x.op = 20) && !withB x.a C) || (decide (x.op = 21) && !withB x.b C)

theorem mop_two {N C k n : Int} : mopE N C k n = 2 ↔ k = 0 ∧ n ≠ 0 := by
  unfold mopE; (repeat' split) <;> simp_all
theorem mop_four {N C k n : Int} (hk : 0 ≤ k ∧ k ≤ 5) : mopE N C k n = 4 ↔ okM N k n = false := by
  unfold mopE okM; (repeat' split) <;> simp_all
theorem mop_five {N C k n : Int} : mopE N C k n = 5 ↔ k = 3 ∧ szB n = false := by
  unfold mopE; (repeat' split) <;> simp_all
theorem mop_six {N C k n : Int} : mopE N C k n = 6 ↔ k = 5 ∧ withB n C = false := by
  unfold mopE; (repeat' split) <;> simp_all
theorem mkinds (o : Int) (h0 : 0 ≤ o) (h1 : o < 25) : (0 ≤ (mshpOf o).1 ∧ (mshpOf o).1 ≤ 5) ∧ (0 ≤ (mshpOf o).2.1 ∧ (mshpOf o).2.1 ≤ 5) ∧ (0 ≤ (mshpOf o).2.2.1 ∧ (mshpOf o).2.2.1 ≤ 5) ∧ ((mshpOf o).1 = 5 ↔ o = 20) ∧ ((mshpOf o).2.1 = 5 ↔ o = 21) ∧ (mshpOf o).2.2.1 ≠ 5 ∧ (mshpOf o).1 ≠ 3 ∧ (mshpOf o).2.1 ≠ 3 ∧ ((mshpOf o).2.2.1 = 3 ↔ memB o = true) := by
  have e : ∀ k : Fin 25, (0 ≤ (mshpOf (k.val : Int)).1 ∧ (mshpOf (k.val : Int)).1 ≤ 5) ∧ (0 ≤ (mshpOf (k.val : Int)).2.1 ∧ (mshpOf (k.val : Int)).2.1 ≤ 5) ∧ (0 ≤ (mshpOf (k.val : Int)).2.2.1 ∧ (mshpOf (k.val : Int)).2.2.1 ≤ 5) ∧ ((mshpOf (k.val : Int)).1 = 5 ↔ (k.val : Int) = 20) ∧ ((mshpOf (k.val : Int)).2.1 = 5 ↔ (k.val : Int) = 21) ∧ (mshpOf (k.val : Int)).2.2.1 ≠ 5 ∧ (mshpOf (k.val : Int)).1 ≠ 3 ∧ (mshpOf (k.val : Int)).2.1 ≠ 3 ∧ ((mshpOf (k.val : Int)).2.2.1 = 3 ↔ memB (k.val : Int) = true) := by decide
  have := e ⟨o.toNat, by omega⟩
  simp only at this
  rwa [Int.toNat_of_nonneg h0] at this
theorem insB_zero {n : Int} (h : 0 ≤ n) : insB 0 0 n = true := by
  have hr : rightB 0 0 = true := by decide
  unfold insB; rw [hr]; simpa using h
theorem cov_no {P S : Int} {x : Ins} (hP : 0 ≤ P) (hS : 0 ≤ S) : covB P S x = false ↔ (rdB x.op && !insB (rdI x).1 (rdI x).2 (S + 16 * P)) = true ∨ (wrB x.op && !insB (wrI x).1 (wrI x).2 S) = true := by
  unfold covB
  have h1 : rdB x.op = false → insB (rdI x).1 (rdI x).2 (S + 16 * P) = true := fun h => by
    rw [show rdI x = (0, 0) by unfold rdI; simp [h]]; exact insB_zero (by omega)
  have h2 : wrB x.op = false → insB (wrI x).1 (wrI x).2 S = true := fun h => by
    rw [show wrI x = (0, 0) by unfold wrI; simp [h]]; exact insB_zero hS
  cases hr : rdB x.op <;> cases hw : wrB x.op <;> cases hi : insB (rdI x).1 (rdI x).2 (S + 16 * P) <;> cases hj : insB (wrI x).1 (wrI x).2 S <;> simp_all
/-- The reference's order. -/
theorem mins_order {N : Nat} {f : Fm} {x : Ins} (he : exB x.op = true) (hP : 0 ≤ f.params) (hS : 0 ≤ f.size) :
    minsE N f x = if fmtB x = true then 2 else if namB N x = false then 4 else if (memB x.op && !szB x.c) = true then 5 else if (rdB x.op && !insB (rdI x).1 (rdI x).2 (f.size + 16 * f.params)) = true then 4 else if (wrB x.op && !insB (wrI x).1 (wrI x).2 f.size) = true then 4 else if tarB f.code.length x = true then 6 else 0 := by
  have ho : 0 ≤ x.op ∧ x.op < 25 := by
    unfold exB at he
    simp only [Bool.and_eq_true] at he
    exact withB_true.1 he.1
  obtain ⟨k1, k2, k3, t1, t2, t3, s1, s2, s3⟩ := mkinds x.op ho.1 ho.2
  unfold minsE
  rw [if_neg (by simp [he])]
  unfold mfound
  rw [mrank_order (mopE_cases _ _ _ _) (mopE_cases _ _ _ _) (mopE_cases _ _ _ _)]
  have c2 : (mopE N f.code.length (mshpOf x.op).1 x.a = 2 ∨ mopE N f.code.length (mshpOf x.op).2.1 x.b = 2 ∨ mopE N f.code.length (mshpOf x.op).2.2.1 x.c = 2 ∨ ((mshpOf x.op).2.2.2 = false ∧ x.imm ≠ 0)) ↔ fmtB x = true := by
    rw [mop_two, mop_two, mop_two]; unfold fmtB muA muB muC muI; simp
  have c4 : (mopE N f.code.length (mshpOf x.op).1 x.a = 4 ∨ mopE N f.code.length (mshpOf x.op).2.1 x.b = 4 ∨ mopE N f.code.length (mshpOf x.op).2.2.1 x.c = 4) ↔ namB N x = false := by
    rw [mop_four k1, mop_four k2, mop_four k3]; unfold namB
    cases okM N (mshpOf x.op).1 x.a <;> cases okM N (mshpOf x.op).2.1 x.b <;> cases okM N (mshpOf x.op).2.2.1 x.c <;> simp
  have c5 : (mopE N f.code.length (mshpOf x.op).1 x.a = 5 ∨ mopE N f.code.length (mshpOf x.op).2.1 x.b = 5 ∨ mopE N f.code.length (mshpOf x.op).2.2.1 x.c = 5) ↔ (memB x.op && !szB x.c) = true := by
    rw [mop_five, mop_five, mop_five, s3]
    constructor
    · rintro (h | h | h)
      · exact absurd h.1 s1
      · exact absurd h.1 s2
      · simp [h.1, h.2]
    · intro h
      simp only [Bool.and_eq_true, Bool.not_eq_true'] at h
      exact .inr (.inr h)
  have c6 : (mopE N f.code.length (mshpOf x.op).1 x.a = 6 ∨ mopE N f.code.length (mshpOf x.op).2.1 x.b = 6 ∨ mopE N f.code.length (mshpOf x.op).2.2.1 x.c = 6) ↔ tarB f.code.length x = true := by
    rw [mop_six, mop_six, mop_six, t1, t2]
    unfold tarB
    constructor
    · rintro (h | h | h)
      · simp [h.1, h.2]
      · simp [h.1, h.2]
      · exact absurd h.1 t3
    · intro h
      simp only [Bool.or_eq_true, Bool.and_eq_true, decide_eq_true_eq, Bool.not_eq_true'] at h
      rcases h with h | h
      · exact .inl h
      · exact .inr (.inl h)
  have cv := cov_no (x := x) hP hS
  by_cases h2 : fmtB x = true
  · rw [if_pos (c2.2 h2), if_pos h2]
  · rw [if_neg (fun h => h2 (c2.1 h)), if_neg h2]
    by_cases h4 : namB N x = false
    · rw [if_pos (c4.2 h4), if_pos h4]
    · rw [if_neg (fun h => h4 (c4.1 h)), if_neg h4]
      by_cases h5 : (memB x.op && !szB x.c) = true
      · rw [if_pos (c5.2 h5), if_pos h5]
      · rw [if_neg (fun h => h5 (c5.1 h)), if_neg h5]
        by_cases hr : (rdB x.op && !insB (rdI x).1 (rdI x).2 (f.size + 16 * f.params)) = true
        · rw [if_pos (cv.2 (.inl hr)), if_pos hr]
        · rw [if_neg hr]
          by_cases hw : (wrB x.op && !insB (wrI x).1 (wrI x).2 f.size) = true
          · rw [if_pos (cv.2 (.inr hw)), if_pos hw]
          · rw [if_neg (fun h => (cv.1 h).elim hr hw), if_neg hw]
            by_cases h6 : tarB f.code.length x = true
            · rw [if_pos (c6.2 h6), if_pos h6]
            · rw [if_neg (fun h => h6 (c6.1 h)), if_neg h6]
end Go.Proofs.YtafegghdhdgioaaDoor
end

section
/-
  The contract of the reference's Operands (chapter 5): which operands an operation uses. Condition: the operation is one of the 25.
-/
namespace Go.Proofs.YtafegghdhdgioaaDoor
open Go.RowKit

set_option maxHeartbeats 4000000 in
theorem ropd_any (op : Int) (w : World) (h0 : 0 ≤ op) (h1 : op < 25) :
    Calls Tryd.prog 71 #[.int .i64 op] w fun e w' => e = .returned (.tuple #[.bool (useA op), .bool (useB op), .bool (useC op), .bool (useI op)]) ∧ w = w' := by
  have hc : op = 0 ∨ op = 1 ∨ op = 2 ∨ op = 3 ∨ op = 4 ∨ op = 5 ∨ op = 6 ∨ op = 7 ∨ op = 8 ∨ op = 9 ∨ op = 10 ∨ op = 11 ∨ op = 12 ∨ op = 13 ∨ op = 14 ∨ op = 15 ∨ op = 16 ∨ op = 17 ∨ op = 18 ∨ op = 19 ∨ op = 20 ∨ op = 21 ∨ op = 22 ∨ op = 23 ∨ op = 24 := by omega
  clear h0 h1
  rcases hc with rfl | rfl | rfl | rfl | rfl | rfl | rfl | rfl | rfl | rfl | rfl | rfl | rfl | rfl | rfl | rfl | rfl | rfl | rfl | rfl | rfl | rfl | rfl | rfl | rfl
  all_goals
    go_enter Tryd.func71, Tryd.ntmps71
    go_wp2
    refine bodyPost_ret (by simp [results, Tryd.results71, go_sem]; decide) rfl ⟨rfl, rfl⟩
end Go.Proofs.YtafegghdhdgioaaDoor
end
