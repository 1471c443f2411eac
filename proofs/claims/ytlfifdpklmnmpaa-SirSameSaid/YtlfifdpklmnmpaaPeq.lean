/-
  The contracts of slices.Equal at slots and at instructions: whether two lists are equal. Conditions: those of the types; fewer than 2^62 elements.
-/
import Derived.Test.YtlfifdpklmnmpaaPmem
import Derived.Test.YtlfifdpklmnmpaaLeaf
import Derived.Laws.StructEq
import Derived.WalkKit
namespace Go.Proofs.Ytlfifdpklmnmpaa
open Go.RowKit

instance : DecidableEq Ins := fun x y =>
  if h : x.op = y.op ∧ x.a = y.a ∧ x.b = y.b ∧ x.c = y.c ∧ x.imm = y.imm then isTrue (by
    obtain ⟨_, _, _, _, _⟩ := x
    obtain ⟨_, _, _, _, _⟩ := y
    obtain ⟨h1, h2, h3, h4, h5⟩ := h
    simp only at h1 h2 h3 h4 h5
    subst h1 h2 h3 h4 h5
    rfl)
  else isFalse fun e => h (by subst e; exact ⟨rfl, rfl, rfl, rfl, rfl⟩)
instance : DecidableEq Fn := fun x y =>
  if h : x.params = y.params ∧ x.slots = y.slots ∧ x.code = y.code then isTrue (by
    obtain ⟨_, _, _⟩ := x
    obtain ⟨_, _, _⟩ := y
    obtain ⟨h1, h2, h3⟩ := h
    simp only at h1 h2 h3
    subst h1 h2 h3
    rfl)
  else isFalse fun e => h (by subst e; exact ⟨rfl, rfl, rfl⟩)
theorem ins_eq {x y : Ins} : x = y ↔ x.op = y.op ∧ x.a = y.a ∧ x.b = y.b ∧ x.c = y.c ∧ x.imm = y.imm := by
  constructor
  · rintro rfl; exact ⟨rfl, rfl, rfl, rfl, rfl⟩
  · intro h
    obtain ⟨_, _, _, _, _⟩ := x
    obtain ⟨_, _, _, _, _⟩ := y
    obtain ⟨h1, h2, h3, h4, h5⟩ := h
    simp only at h1 h2 h3 h4 h5
    subst h1 h2 h3 h4 h5
    rfl

theorem snoc_take {α : Type} {l : List α} {k : Nat} (h : k < l.length) : l.take (k + 1) = l.take k ++ [l[k]] := by
  rw [List.take_add_one, List.getElem?_eq_getElem h]; rfl
theorem ne_take {α : Type} {l m : List α} {k : Nat} (h1 : k < l.length) (h2 : k < m.length) (hne : l[k] ≠ m[k]) : l ≠ m := by
  rintro rfl; exact hne rfl

/-- Whether two lists are equal, the world but for draws as it was. -/
def BoolDrew (b : Bool) (w : World) (e : Ending) (w' : World) : Prop := e = .returned (.bool b) ∧ ∃ k, w' = w.drewN k

theorem slot_fields : Try.prog.underlying 54 = some (.struct (Try.prog.fieldsOf 54)) := by kernel_rfl
theorem slot_held : Try.prog.stoodInHeld 54 = false := by kernel_rfl
theorem equalIn_slot (a b c d : Int) (w : World) : (Op.equalIn 10000 54 (pv a b) (pv c d)).run Try.prog w = .ok (decide (a = c) && decide (b = d)) w := by
  rw [show (10000 : Nat) = 9999 + 1 from rfl, run_equalIn_agg w 9999 54 _ _ slot_fields slot_held]
  have u := Try.underlying3
  have a' := Try.isAgg3
  have z := Try.sizeOf3
  simp only [Program.fieldsOf, Try.underlying54]
  go_simp
  by_cases h1 : a = c <;> by_cases h2 : b = d <;> simp [h1, h2]
theorem run_ne_slot (a b c d : Int) (w : World) : (binOp .neq 54 (pv a b) (pv c d)).run Try.prog w = .ok (.bool (!(decide (a = c) && decide (b = d)))) w := by
  rw [run_neq_struct, equalIn_slot, Result.andThen_ok]
theorem instr_fields : Try.prog.underlying 50 = some (.struct (Try.prog.fieldsOf 50)) := by kernel_rfl
theorem instr_held : Try.prog.stoodInHeld 50 = false := by kernel_rfl
theorem equalIn_instr (o a b c m o' a' b' c' m' : Int) (w : World) : (Op.equalIn 10000 50 (iv o a b c m) (iv o' a' b' c' m')).run Try.prog w = .ok (decide (o = o') && (decide (a = a') && (decide (b = b') && (decide (c = c') && decide (m = m'))))) w := by
  rw [show (10000 : Nat) = 9999 + 1 from rfl, run_equalIn_agg w 9999 50 _ _ instr_fields instr_held]
  have u := Try.underlying3
  have ag := Try.isAgg3
  have z := Try.sizeOf3
  have u' := Try.underlying48
  have ag' := Try.isAgg48
  have z' := Try.sizeOf48
  simp only [Program.fieldsOf, Try.underlying50]
  go_simp
  by_cases h1 : o = o' <;> by_cases h2 : a = a' <;> by_cases h3 : b = b' <;> by_cases h4 : c = c' <;> by_cases h5 : m = m' <;> simp [h1, h2, h3, h4, h5]
theorem run_ne_instr (o a b c m o' a' b' c' m' : Int) (w : World) : (binOp .neq 50 (iv o a b c m) (iv o' a' b' c' m')).run Try.prog w = .ok (.bool (!(decide (o = o') && (decide (a = a') && (decide (b = b') && (decide (c = c') && decide (m = m'))))))) w := by
  rw [run_neq_struct, equalIn_instr, Result.andThen_ok]

set_option maxHeartbeats 800000 in
theorem eqslots_any (A : Option Addr) (n c : Nat) (zs : List (Int × Int)) (A' : Option Addr) (n' c' : Nat) (ys : List (Int × Int)) (B B' : Nat) (w : World) (hn : Hid (zs.length = n)) (hn' : Hid (ys.length = n')) (hm : n ≤ 4611686018427387904) (h : Hid (Sees w B A (pcells zs))) (h' : Hid (Sees w B' A' (pcells ys))) :
    Calls Try.prog 24 #[.slice A n c, .slice A' n' c'] w (BoolDrew (decide (zs = ys)) w) := by
  by_cases hnn : n = n'
  · subst hnn
    obtain ⟨b, hb⟩ : ∃ b, decide (zs = ys) = b := ⟨_, rfl⟩
    rw [hb]
    have HB := hide hb
    clear hb
    go_enter Try.func24, Try.ntmps24
    go_wp2_with fail
    go_loopw [13] (fun i wr => ∃ k : Nat, k ≤ n ∧ i = .int .i64 k ∧ Hid (zs.take k = ys.take k) ∧ ∃ m, wr = w.drewN m) (fun i _ => n - (intOf i).toNat)
    case atStart => exact ⟨0, by omega, rfl, hide rfl, 0, rfl⟩
    case round =>
      obtain ⟨k, hk, rfl, hT, m, rfl⟩ := hrel
      by_cases hlt : k < n
      · have l1 : k < zs.length := by have := hn.out; omega
        have l2 : k < ys.length := by have := hn'.out; omega
        obtain ⟨b1, o1, rfl, _, p0, p1⟩ := pair_at h.out l1
        obtain ⟨b2, o2, rfl, _, q0, q1⟩ := pair_at h'.out l2
        have N1 := hide (fun hne => ne_take l1 l2 hne)
        have N2 := hide (fun heq : zs[k] = ys[k] => (show zs.take (k + 1) = ys.take (k + 1) by rw [snoc_take l1, snoc_take l2, hT.out, heq]))
        obtain ⟨x, hx⟩ : ∃ x, zs[k] = x := ⟨_, rfl⟩
        obtain ⟨y, hy⟩ : ∃ y, ys[k] = y := ⟨_, rfl⟩
        rw [hx] at p0 p1 N1 N2
        rw [hy] at q0 q1 N1 N2
        clear hx hy
        obtain ⟨x0, x1⟩ := x
        obtain ⟨y0, y1⟩ := y
        simp only at p0 p1 q0 q1
        clear l1 l2
        by_cases hxy : x0 = y0 ∧ x1 = y1
        · have hne : ∀ w, (binOp .neq 54 (pv x0 x1) (pv y0 y1)).run Try.prog w = .ok (.bool false) w := fun w => by rw [run_ne_slot]; simp [hxy]
          have H2 := hide (N2.out (by obtain ⟨rfl, rfl⟩ := hxy; rfl))
          clear N1 N2 hxy
          go_wp2_with fail
          go_quiet (fail)
          go_wp2_with fail
          go_roundw
          case rel => exact ⟨k + 1, by omega, by go_num, H2, _, rfl⟩
          case measure => simp [intOf]; omega
        · have hne : ∀ w, (binOp .neq 54 (pv x0 x1) (pv y0 y1)).run Try.prog w = .ok (.bool true) w := fun w => by
            rw [run_ne_slot]
            congr 2
            rw [Bool.not_eq_true', ← Bool.not_eq_true]
            simpa using hxy
          have hB := hide (HB.out.symm.trans (decide_eq_false (N1.out (fun e => hxy (by injection e with e1 e2; exact ⟨e1, e2⟩)))))
          clear N1 N2 hxy
          go_wp2_with fail
          go_quiet (fail)
          go_wp2_with fail
          go_ret
          exact ⟨by rw [hB.out]; rfl, _, World.drewN_drewN _ _ _⟩
      · obtain rfl : k = n := by omega
        have hB := hide (HB.out.symm.trans (decide_eq_true (by
          have := hT.out
          rwa [List.take_of_length_le (by have := hn.out; omega), List.take_of_length_le (by have := hn'.out; omega)] at this)))
        go_wp2_with fail
        go_ret
        exact ⟨by rw [hB.out]; rfl, _, rfl⟩
  · have hne : ((n : Int) != (n' : Int)) = true := by rw [bne_iff_ne]; omega
    have HB := hide (show decide (zs = ys) = false by
      rw [decide_eq_false_iff_not]
      rintro rfl
      exact hnn (hn.out.symm.trans hn'.out))
    rw [HB.out]
    clear hnn
    go_enter Try.func24, Try.ntmps24
    go_wp2_with fail
    go_ret
    exact ⟨rfl, 0, rfl⟩

set_option maxHeartbeats 800000 in
theorem eqcode_any (A : Option Addr) (n c : Nat) (zs : List Ins) (A' : Option Addr) (n' c' : Nat) (ys : List Ins) (B B' : Nat) (w : World) (hn : Hid (zs.length = n)) (hn' : Hid (ys.length = n')) (hm : n ≤ 4611686018427387904) (h : Hid (Sees w B A (icells zs))) (h' : Hid (Sees w B' A' (icells ys))) :
    Calls Try.prog 25 #[.slice A n c, .slice A' n' c'] w (BoolDrew (decide (zs = ys)) w) := by
  by_cases hnn : n = n'
  · subst hnn
    obtain ⟨b, hb⟩ : ∃ b, decide (zs = ys) = b := ⟨_, rfl⟩
    rw [hb]
    have HB := hide hb
    clear hb
    go_enter Try.func25, Try.ntmps25
    go_wp2_with fail
    go_loopw [13] (fun i wr => ∃ k : Nat, k ≤ n ∧ i = .int .i64 k ∧ Hid (zs.take k = ys.take k) ∧ ∃ m, wr = w.drewN m) (fun i _ => n - (intOf i).toNat)
    case atStart => exact ⟨0, by omega, rfl, hide rfl, 0, rfl⟩
    case round =>
      obtain ⟨k, hk, rfl, hT, m, rfl⟩ := hrel
      by_cases hlt : k < n
      · have l1 : k < zs.length := by have := hn.out; omega
        have l2 : k < ys.length := by have := hn'.out; omega
        obtain ⟨b1, o1, rfl, _, p0, p1, p2, p3, p4⟩ := ins_at h.out l1
        obtain ⟨b2, o2, rfl, _, q0, q1, q2, q3, q4⟩ := ins_at h'.out l2
        have N1 := hide (fun hne => ne_take l1 l2 hne)
        have N2 := hide (fun heq : zs[k] = ys[k] => (show zs.take (k + 1) = ys.take (k + 1) by rw [snoc_take l1, snoc_take l2, hT.out, heq]))
        obtain ⟨x, hx⟩ : ∃ x, zs[k] = x := ⟨_, rfl⟩
        obtain ⟨y, hy⟩ : ∃ y, ys[k] = y := ⟨_, rfl⟩
        rw [hx] at p0 p1 p2 p3 p4 N1 N2
        rw [hy] at q0 q1 q2 q3 q4 N1 N2
        clear hx hy
        obtain ⟨x0, x1, x2, x3, x4⟩ := x
        obtain ⟨y0, y1, y2, y3, y4⟩ := y
        simp only at p0 p1 p2 p3 p4 q0 q1 q2 q3 q4
        clear l1 l2
        by_cases hxy : x0 = y0 ∧ x1 = y1 ∧ x2 = y2 ∧ x3 = y3 ∧ x4 = y4
        · have hne : ∀ w, (binOp .neq 50 (iv x0 x1 x2 x3 x4) (iv y0 y1 y2 y3 y4)).run Try.prog w = .ok (.bool false) w := fun w => by rw [run_ne_instr]; simp [hxy]
          have H2 := hide (N2.out (by obtain ⟨rfl, rfl, rfl, rfl, rfl⟩ := hxy; rfl))
          clear N1 N2 hxy
          go_wp2_with fail
          go_quiet (fail)
          go_wp2_with fail
          go_roundw
          case rel => exact ⟨k + 1, by omega, by go_num, H2, _, rfl⟩
          case measure => simp [intOf]; omega
        · have hne : ∀ w, (binOp .neq 50 (iv x0 x1 x2 x3 x4) (iv y0 y1 y2 y3 y4)).run Try.prog w = .ok (.bool true) w := fun w => by
            rw [run_ne_instr]
            congr 2
            rw [Bool.not_eq_true', ← Bool.not_eq_true]
            simpa using hxy
          have hB := hide (HB.out.symm.trans (decide_eq_false (N1.out (fun e => hxy (by injection e with e0 e1 e2 e3 e4; exact ⟨e0, e1, e2, e3, e4⟩)))))
          clear N1 N2 hxy
          go_wp2_with fail
          go_quiet (fail)
          go_wp2_with fail
          go_ret
          exact ⟨by rw [hB.out]; rfl, _, World.drewN_drewN _ _ _⟩
      · obtain rfl : k = n := by omega
        have hB := hide (HB.out.symm.trans (decide_eq_true (by
          have := hT.out
          rwa [List.take_of_length_le (by have := hn.out; omega), List.take_of_length_le (by have := hn'.out; omega)] at this)))
        go_wp2_with fail
        go_ret
        exact ⟨by rw [hB.out]; rfl, _, rfl⟩
  · have hne : ((n : Int) != (n' : Int)) = true := by rw [bne_iff_ne]; omega
    have HB := hide (show decide (zs = ys) = false by
      rw [decide_eq_false_iff_not]
      rintro rfl
      exact hnn (hn.out.symm.trans hn'.out))
    rw [HB.out]
    clear hnn
    go_enter Try.func25, Try.ntmps25
    go_wp2_with fail
    go_ret
    exact ⟨rfl, 0, rfl⟩

end Go.Proofs.Ytlfifdpklmnmpaa
