import Derived.Test.YtlhaendgdeflkaaGreatDoorMGd
import Derived.Test.YtlhaendgdeflkaaGreatDoorMBoxes
import Derived.Deep.RegionHeld3
import Derived.Deep.DrawnRows
set_option linter.unusedVariables false
set_option linter.unusedSimpArgs false
section
/-
  The contracts of the reference's SameCode, SameFunc and Same: whether lists of instructions, functions, programs are equal. Conditions: those of the types.
-/
namespace Go.Proofs.YtlhaendgdeflkaaGreatDoor
open Go.RowKit

set_option maxHeartbeats 800000 in
theorem rsamecode_any (A : Option Addr) (n c : Nat) (zs : List Ins) (A' : Option Addr) (n' c' : Nat) (ys : List Ins) (B B' : Nat) (w : World) (hn : Hid (zs.length = n)) (hn' : Hid (ys.length = n')) (hm : n ≤ 4611686018427387904) (h : Hid (Sees w B A (icells zs))) (h' : Hid (Sees w B' A' (icells ys))) :
    Calls Tryz.prog 52 #[.slice A n c, .slice A' n' c'] w (BoolDrew (decide (zs = ys)) w) := by
  by_cases hnn : n = n'
  · subst hnn
    obtain ⟨b, hb⟩ : ∃ b, decide (zs = ys) = b := ⟨_, rfl⟩
    rw [hb]
    have HB := hide hb
    clear hb
    go_enter Tryz.func52, Tryz.ntmps52
    go_wp2_with fail
    go_loopw [5] (fun i wr => ∃ k : Nat, k ≤ n ∧ i = .int .i64 k ∧ Hid (zs.take k = ys.take k) ∧ ∃ m, wr = w.drewN m) (fun i _ => n - (intOf i).toNat)
    case atStart => exact ⟨0, by omega, rfl, hide rfl, 0, rfl⟩
    case round =>
      obtain ⟨k, hk, rfl, hT, m, rfl⟩ := hrel
      by_cases hlt : k < n
      · have l1 : k < zs.length := by have := hn.out; omega
        have l2 : k < ys.length := by have := hn'.out; omega
        obtain ⟨b1, o1, rfl, _, p0, p1, p2, p3, p4⟩ := ins_at h.out l1
        obtain ⟨b2, o2, rfl, _, q0, q1, q2, q3, q4⟩ := ins_at h'.out l2
        have N1 := hide (fun hne => ne_take l1 l2 hne)
        have N2 := hide (fun heq : zs[k] = ys[k] => (show zs.take (k + 1) = ys.take (k + 1) by rw [snoc_take l1, snoc_take l2, hT.out, heq]))
        obtain ⟨x, hx⟩ : ∃ x, zs[k] = x := ⟨_, rfl⟩
        obtain ⟨y, hy⟩ : ∃ y, ys[k] = y := ⟨_, rfl⟩
        rw [hx] at p0 p1 p2 p3 p4 N1 N2
        rw [hy] at q0 q1 q2 q3 q4 N1 N2
        clear hx hy
        obtain ⟨x0, x1, x2, x3, x4⟩ := x
        obtain ⟨y0, y1, y2, y3, y4⟩ := y
        simp only at p0 p1 p2 p3 p4 q0 q1 q2 q3 q4
        have hkz : (0 : Int) ≤ (k : Int) := by omega
        have hkz' : (k : Int) < (n : Int) := by omega
        clear l1 l2
        by_cases hxy : x0 = y0 ∧ x1 = y1 ∧ x2 = y2 ∧ x3 = y3 ∧ x4 = y4
        · have hne : ∀ w, (binOp .neq 44 (iv x0 x1 x2 x3 x4) (iv y0 y1 y2 y3 y4)).run Tryz.prog w = .ok (.bool false) w := fun w => by rw [run_ne_instr]; simp [hxy]
          have H2 := hide (N2.out (by obtain ⟨rfl, rfl, rfl, rfl, rfl⟩ := hxy; rfl))
          clear N1 N2 hxy
          go_wp2_with fail
          go_quiet (fail)
          go_wp2_with fail
          go_roundw
          case rel => exact ⟨k + 1, by omega, by go_num, H2, _, rfl⟩
          case measure => simp [intOf]; omega
        · have hne : ∀ w, (binOp .neq 44 (iv x0 x1 x2 x3 x4) (iv y0 y1 y2 y3 y4)).run Tryz.prog w = .ok (.bool true) w := fun w => by
            rw [run_ne_instr]
            congr 2
            rw [Bool.not_eq_true', ← Bool.not_eq_true]
            simpa using hxy
          have hB := hide (HB.out.symm.trans (decide_eq_false (N1.out (fun e => hxy (by injection e with e0 e1 e2 e3 e4; exact ⟨e0, e1, e2, e3, e4⟩)))))
          clear N1 N2 hxy
          go_wp2_with fail
          go_quiet (fail)
          go_wp2_with fail
          go_ret
          exact ⟨by rw [hB.out]; rfl, _, World.drewN_drewN _ _ _⟩
      · obtain rfl : k = n := by omega
        have hB := hide (HB.out.symm.trans (decide_eq_true (by
          have := hT.out
          rwa [List.take_of_length_le (by have := hn.out; omega), List.take_of_length_le (by have := hn'.out; omega)] at this)))
        go_wp2_with fail
        go_ret
        exact ⟨by rw [hB.out]; rfl, _, rfl⟩
  · have hne : ((n : Int) != (n' : Int)) = true := by rw [bne_iff_ne]; omega
    have HB := hide (show decide (zs = ys) = false by
      rw [decide_eq_false_iff_not]
      rintro rfl
      exact hnn (hn.out.symm.trans hn'.out))
    rw [HB.out]
    clear hnn
    go_enter Tryz.func52, Tryz.ntmps52
    go_wp2_with fail
    go_ret
    exact ⟨rfl, 0, rfl⟩

set_option maxHeartbeats 2000000 in
theorem rsamefn_any (P : Int) (A1 : Option Addr) (n1 c1 : Nat) (A2 : Option Addr) (n2 c2 : Nat) (P' : Int) (A1' : Option Addr) (n1' c1' : Nat) (A2' : Option Addr) (n2' c2' : Nat) (f f' : Fn) (lo lo' B B' : Nat) (w : World)
    (H : Hid (HdAt w lo B ⟨P, A1, n1, c1, A2, n2, c2⟩ f)) (H' : Hid (HdAt w lo' B' ⟨P', A1', n1', c1', A2', n2', c2'⟩ f')) (hB : B ≤ w.heap.size) (hB' : B' ≤ w.heap.size) :
    Calls Tryz.prog 27 #[fv P A1 n1 c1 A2 n2 c2, fv P' A1' n1' c1' A2' n2' c2'] w (BoolBelow (decide (f = f')) w) := by
  obtain ⟨b, hb⟩ : ∃ b, decide (f = f') = b := ⟨_, rfl⟩
  rw [hb]
  have HB := hide (show decide (f.params = f'.params ∧ f.slots = f'.slots ∧ f.code = f'.code) = b by rw [← hb]; exact decide_eq_decide.2 fn_eq.symm)
  clear hb
  have E := hide (show P = f.params from H.out.p)
  have E' := hide (show P' = f'.params from H'.out.p)
  have L1 := hide (show f.slots.length = n1 from H.out.l1)
  have L1' := hide (show f'.slots.length = n1' from H'.out.l1)
  by_cases e1 : P = P'
  · subst e1
    have hx : f.params = f'.params := E.out.symm.trans E'.out
    by_cases e2 : n1 = n1'
    · subst e2
      obtain ⟨W, hW, hbW, hsW, r0, r1⟩ := boxes2p w [.int .i64 P, .slice A1 n1 c1, .slice A2 n2 c2] [.int .i64 P, .slice A1' n1 c1', .slice A2' n2' c2'] 49 49
      have HW := hide hW
      have HBW := hide hbW
      have R0 := hide r0
      have R1 := hide r1
      have s1 := H.out.s1.below (hbW.mono hB)
      have s1' := H'.out.s1.below (hbW.mono hB')
      have S1 := hide s1
      have S1' := hide s1'
      have hm := cap_le H.out.k1
      simp only at hm
      obtain ⟨b2, h2⟩ : ∃ b2, decide (f.code = f'.code) = b2 := ⟨_, rfl⟩
      have HB' : Hid (b = (decide (f.slots = f'.slots) && b2)) := by
        show b = (decide (f.slots = f'.slots) && b2)
        rw [← HB.out, ← h2]; simp [hx]
      have k2 := rsamecode_any A2 n2 c2 f.code A2' n2' c2' f'.code B B' W (hide H.out.l2) (hide H'.out.l2) (cap_le H.out.k2) (hide (H.out.s2.below (hbW.mono hB))) (hide (H'.out.s2.below (hbW.mono hB')))
      rw [h2] at k2
      have K2 := hide k2
      clear HB hx k2 h2 hW hbW r0 r1 s1 s1'
      cases b2 with
      | false =>
        go_enter Tryz.func27, Tryz.ntmps27
        go_wp2_with fail
        rw [HW.out]
        refine (K2.out).mono ?_
        rintro e w' ⟨rfl, q, rfl⟩
        go_wp2_with fail
        go_ret
        exact ⟨ret_bool (by rw [HB'.out]; simp), drewN_below HBW.out _⟩
      | true =>
        have x1 := R0.out.cell (k := 1) rfl
        have y1 := R1.out.cell (k := 1) rfl
        go_enter Tryz.func27, Tryz.ntmps27
        go_wp2_with fail
        rw [HW.out]
        refine (K2.out).mono ?_
        rintro e w' ⟨rfl, q, rfl⟩
        go_wp2_with fail
        go_loopw [5] (fun i wr => ∃ k : Nat, k ≤ n1 ∧ i = .int .i64 k ∧ Hid (f.slots.take k = f'.slots.take k) ∧ ∃ m, wr = W.drewN m) (fun i _ => n1 - (intOf i).toNat)
        case atStart => exact ⟨0, by omega, rfl, hide rfl, _, rfl⟩
        case round =>
          obtain ⟨k, hk, rfl, hT, m, rfl⟩ := hrel
          by_cases hlt : k < n1
          · have l1 : k < f.slots.length := by have := L1.out; omega
            have l2 : k < f'.slots.length := by have := L1'.out; omega
            obtain ⟨b1, o1, ea, _, p0, p1⟩ := pair_at S1.out l1
            obtain ⟨b2, o2, eb, _, q0, q1⟩ := pair_at S1'.out l2
            subst ea eb
            have N1 := hide (fun hne => ne_take l1 l2 hne)
            have N2 := hide (fun heq : f.slots[k] = f'.slots[k] => (show f.slots.take (k + 1) = f'.slots.take (k + 1) by rw [snoc_take l1, snoc_take l2, hT.out, heq]))
            obtain ⟨x, hx⟩ : ∃ x, f.slots[k] = x := ⟨_, rfl⟩
            obtain ⟨y, hy⟩ : ∃ y, f'.slots[k] = y := ⟨_, rfl⟩
            rw [hx] at p0 p1 N1 N2
            rw [hy] at q0 q1 N1 N2
            clear hx hy
            obtain ⟨x0, x1'⟩ := x
            obtain ⟨y0, y1'⟩ := y
            simp only at p0 p1 q0 q1
            have hkz : (0 : Int) ≤ (k : Int) := by omega
            have hkz' : (k : Int) < (n1 : Int) := by omega
            clear l1 l2
            by_cases hxy : x0 = y0 ∧ x1' = y1'
            · have hne : ∀ w, (binOp .neq 52 (pv x0 x1') (pv y0 y1')).run Tryz.prog w = .ok (.bool false) w := fun w => by rw [run_ne_slot]; simp [hxy]
              have H2 := hide (N2.out (by obtain ⟨rfl, rfl⟩ := hxy; rfl))
              clear N1 N2 hxy
              go_wp2_with fail
              go_quiet (fail)
              go_wp2_with fail
              go_roundw
              case rel => exact ⟨k + 1, by omega, by go_num, H2, _, rfl⟩
              case measure => simp [intOf]; omega
            · have hne : ∀ w, (binOp .neq 52 (pv x0 x1') (pv y0 y1')).run Tryz.prog w = .ok (.bool true) w := fun w => by
                rw [run_ne_slot]
                congr 2
                rw [Bool.not_eq_true', ← Bool.not_eq_true]
                simpa using hxy
              have hBB := hide (show b = false from HB'.out.trans (by rw [decide_eq_false (N1.out (fun e => hxy (by injection e with e0 e1; exact ⟨e0, e1⟩)))]; rfl))
              clear N1 N2 hxy
              go_wp2_with fail
              go_quiet (fail)
              go_wp2_with fail
              go_ret
              exact ⟨ret_bool hBB.out.symm, drewN_below (drewN_below HBW.out _) _⟩
          · obtain rfl : k = n1 := by omega
            have hBB := hide (HB'.out.trans (by rw [decide_eq_true (by
              have := hT.out
              rwa [List.take_of_length_le (by have := L1.out; omega), List.take_of_length_le (by have := L1'.out; omega)] at this)]; rfl : (decide (f.slots = f'.slots) && true) = true))
            go_wp2_with fail
            go_ret
            exact ⟨ret_bool hBB.out.symm, drewN_below HBW.out _⟩
    · have hne : ((n1 : Int) != (n1' : Int)) = true := by rw [bne_iff_ne]; omega
      have hBf : Hid (b = false) := by
        show b = false
        rw [← HB.out, decide_eq_false_iff_not]
        rintro ⟨_, hs, _⟩
        exact e2 (by rw [← L1.out, ← L1'.out, hs])
      clear HB e2 hx
      go_enter Tryz.func27, Tryz.ntmps27
      go_wp2_with fail
      go_ret
      exact ⟨ret_bool hBf.out.symm, below2 _ _ _⟩
  · have hne : (P != P') = true := by rw [bne_iff_ne]; exact e1
    have hBf : Hid (b = false) := by
      show b = false
      rw [← HB.out, decide_eq_false_iff_not, ← E.out, ← E'.out]
      exact fun h => e1 h.1
    clear HB e1
    go_enter Tryz.func27, Tryz.ntmps27
    go_wp2_with fail
    go_ret
    exact ⟨ret_bool hBf.out.symm, below2 _ _ _⟩

theorem keep8 {W w1 : World} (hb : Below W.heap.size W w1) {a1 a2 a3 a4 a5 a6 a7 a8 : Addr} {v1 v2 v3 v4 v5 v6 v7 v8 : Value} (h1 : W.cell? a1 = some v1) (h2 : W.cell? a2 = some v2) (h3 : W.cell? a3 = some v3) (h4 : W.cell? a4 = some v4) (h5 : W.cell? a5 = some v5) (h6 : W.cell? a6 = some v6) (h7 : W.cell? a7 = some v7) (h8 : W.cell? a8 = some v8) :
    w1.cell? a1 = some v1 ∧ w1.cell? a2 = some v2 ∧ w1.cell? a3 = some v3 ∧ w1.cell? a4 = some v4 ∧ w1.cell? a5 = some v5 ∧ w1.cell? a6 = some v6 ∧ w1.cell? a7 = some v7 ∧ w1.cell? a8 = some v8 :=
  ⟨keep_cellB hb h1, keep_cellB hb h2, keep_cellB hb h3, keep_cellB hb h4, keep_cellB hb h5, keep_cellB hb h6, keep_cellB hb h7, keep_cellB hb h8⟩

set_option maxHeartbeats 4000000 in
theorem rsame_any (A : Option Addr) (n c : Nat) (hs : List Hd) (F : Pg) (A' : Option Addr) (n' c' : Nat) (hs' : List Hd) (F' : Pg) (lo lo' B B' : Nat) (w : World) (H : Hid (PgAt w lo B A n c hs F)) (H' : Hid (PgAt w lo' B' A' n' c' hs' F')) (hB : B ≤ w.heap.size) (hB' : B' ≤ w.heap.size) :
    Calls Tryz.prog 12 #[gv A n c, gv A' n' c'] w (BoolBelow (decide (F = F')) w) := by
  have hm := cap_le H.out.cap
  by_cases hnn : n = n'
  · subst hnn
    obtain ⟨b, hb⟩ : ∃ b, decide (F = F') = b := ⟨_, rfl⟩
    rw [hb]
    have HB := hide hb
    clear hb
    obtain ⟨W, hW, hbW, hsW, r0, r1⟩ := boxes2p w [.slice A n c] [.slice A' n c'] 29 29
    have HW := hide hW
    have HBW := hide hbW
    have R0 := hide r0
    have R1 := hide r1
    have H1 := hide (H.out.below (hbW.mono hB))
    have H1' := hide (H'.out.below (hbW.mono hB'))
    have hBW : B ≤ W.heap.size := by omega
    have hBW' : B' ≤ W.heap.size := by omega
    clear hW hbW r0 r1
    go_enter Tryz.func12, Tryz.ntmps12
    go_wp2_with fail
    rw [HW.out]
    go_loopw [5] (fun i wr => ∃ k : Nat, k ≤ n ∧ i = .int .i64 k ∧ Hid (F.take k = F'.take k) ∧ Hid (Below W.heap.size W wr)) (fun i _ => n - (intOf i).toNat)
    case atStart => exact ⟨0, by omega, rfl, hide rfl, hide (Below.refl _ _)⟩
    case round =>
      obtain ⟨k, hk, rfl, hT, hb⟩ := hrel
      have x0 := (R0.out.call hb.out).cell (k := 0) rfl
      have y0 := (R1.out.call hb.out).cell (k := 0) rfl
      have hwr := hb.out.size
      by_cases hlt : k < n
      · have G := H1.out.below (hb.out.mono hBW)
        have G' := H1'.out.below (hb.out.mono hBW')
        obtain ⟨b1, o1, P, A1, n1, c1, A2, n2, c2, f, rfl, hb1, e1, _, h1, p0, p1, p2⟩ := fn_at G hlt
        obtain ⟨b2, o2, P', A1', n1', c1', A2', n2', c2', f', rfl, hb2, e2, _, h2, q0, q1, q2⟩ := fn_at G' hlt
        have l1 : k < F.length := by rw [G.len]; exact hlt
        have l2 : k < F'.length := by rw [G'.len]; exact hlt
        have i1 : F[k] = f := by rw [List.getElem?_eq_getElem l1] at e1; injection e1
        have i2 : F'[k] = f' := by rw [List.getElem?_eq_getElem l2] at e2; injection e2
        have N1 := hide (fun hne : f ≠ f' => (show F ≠ F' from ne_take l1 l2 (by rw [i1, i2]; exact hne)))
        have N2 := hide (fun heq : f = f' => (show F.take (k + 1) = F'.take (k + 1) by rw [snoc_take l1, snoc_take l2, hT.out, i1, i2, heq]))
        have k1 : ∀ W', Below wr.heap.size wr W' → Calls Tryz.prog 27 #[fv P A1 n1 c1 A2 n2 c2, fv P' A1' n1' c1' A2' n2' c2'] W' (BoolBelow (decide (f = f')) W') := fun W' hw =>
          rsamefn_any P A1 n1 c1 A2 n2 c2 P' A1' n1' c1' A2' n2' c2' f f' lo lo' B B' W' (hide (h1.below (hw.mono (Nat.le_trans hBW hwr)))) (hide (h2.below (hw.mono (Nat.le_trans hBW' hwr)))) (Nat.le_trans hBW (Nat.le_trans hwr hw.size)) (Nat.le_trans hBW' (Nat.le_trans hwr hw.size))
        obtain ⟨v, hv⟩ : ∃ v, decide (f = f') = v := ⟨_, rfl⟩
        simp only [hv] at k1
        have K1 := hide k1
        have HV := hide hv
        have HBr := hb
        have hkz : (0 : Int) ≤ (k : Int) := by omega
        have hkz' : (k : Int) < (n : Int) := by omega
        clear k1 G G' e1 e2 h1 h2 l1 l2 i1 i2 hb1 hb2 hb hv
        go_wp2_with fail
        cases v with
        | true =>
          have H2 := hide (N2.out (of_decide_eq_true HV.out))
          clear N1 N2
          go_region_held3 (fun w' => w'.cell? ⟨w.heap.size, 0, none⟩ = some (.slice (some ⟨b1, o1, none⟩) n c) ∧ w'.cell? ⟨w.heap.size + 1, 0, none⟩ = some (.slice (some ⟨b2, o2, none⟩) n c') ∧ w'.cell? ⟨b1, o1 + k * 3, none⟩ = some (.int .i64 P) ∧ w'.cell? ⟨b1, o1 + k * 3 + 1, none⟩ = some (.slice A1 n1 c1) ∧ w'.cell? ⟨b1, o1 + k * 3 + 2, none⟩ = some (.slice A2 n2 c2) ∧ w'.cell? ⟨b2, o2 + k * 3, none⟩ = some (.int .i64 P') ∧ w'.cell? ⟨b2, o2 + k * 3 + 1, none⟩ = some (.slice A1' n1' c1') ∧ w'.cell? ⟨b2, o2 + k * 3 + 2, none⟩ = some (.slice A2' n2' c2'))
            (first | go_keep | (refine keep8 hb1 ?_ ?_ ?_ ?_ ?_ ?_ ?_ ?_ <;> go_keep))
            (first | (go_at_call 27; refine (K1.out wr.drew (Below.refl _ _).drew).mono ?_; rintro e w2 ⟨rfl, hb1⟩))
          have HB2 := hide (below_call HBr.out ((Below.refl wr.heap.size wr).drew.trans hb1))
          clear hb1 x0 y0 p0 p1 p2 q0 q1 q2
          go_wp2_with fail
          go_roundw
          case rel => exact ⟨k + 1, by omega, by go_num, H2, HB2⟩
          case measure => simp [intOf]; omega
        | false =>
          have hBf := hide (HB.out.symm.trans (decide_eq_false (N1.out (of_decide_eq_false HV.out))))
          clear N1 N2
          go_region_held3 (fun w' => w'.cell? ⟨w.heap.size, 0, none⟩ = some (.slice (some ⟨b1, o1, none⟩) n c) ∧ w'.cell? ⟨w.heap.size + 1, 0, none⟩ = some (.slice (some ⟨b2, o2, none⟩) n c') ∧ w'.cell? ⟨b1, o1 + k * 3, none⟩ = some (.int .i64 P) ∧ w'.cell? ⟨b1, o1 + k * 3 + 1, none⟩ = some (.slice A1 n1 c1) ∧ w'.cell? ⟨b1, o1 + k * 3 + 2, none⟩ = some (.slice A2 n2 c2) ∧ w'.cell? ⟨b2, o2 + k * 3, none⟩ = some (.int .i64 P') ∧ w'.cell? ⟨b2, o2 + k * 3 + 1, none⟩ = some (.slice A1' n1' c1') ∧ w'.cell? ⟨b2, o2 + k * 3 + 2, none⟩ = some (.slice A2' n2' c2'))
            (first | go_keep | (refine keep8 hb1 ?_ ?_ ?_ ?_ ?_ ?_ ?_ ?_ <;> go_keep))
            (first | (go_at_call 27; refine (K1.out wr.drew (Below.refl _ _).drew).mono ?_; rintro e w2 ⟨rfl, hb1⟩))
          have HB2 := hide (below_call HBr.out ((Below.refl wr.heap.size wr).drew.trans hb1))
          clear hb1 x0 y0 p0 p1 p2 q0 q1 q2
          go_wp2_with fail
          go_ret
          exact ⟨by rw [hBf.out]; rfl, HBW.out.trans (HB2.out.mono HBW.out.size)⟩
      · obtain rfl : k = n := by omega
        have hBt := hide (HB.out.symm.trans (decide_eq_true (by
          have := hT.out
          rwa [List.take_of_length_le (by have := H.out.len; omega), List.take_of_length_le (by have := H'.out.len; omega)] at this)))
        go_wp2_with fail
        go_ret
        exact ⟨by rw [hBt.out]; rfl, HBW.out.trans (hb.out.mono HBW.out.size)⟩
  · have hne : ((n : Int) != (n' : Int)) = true := by rw [bne_iff_ne]; omega
    have HB := hide (show decide (F = F') = false by
      rw [decide_eq_false_iff_not]
      rintro rfl
      exact hnn (H.out.len.symm.trans H'.out.len))
    rw [HB.out]
    clear hnn
    go_enter Tryz.func12, Tryz.ntmps12
    go_wp2_with fail
    go_ret
    exact ⟨rfl, below2 _ _ _⟩
end Go.Proofs.YtlhaendgdeflkaaGreatDoor
end
