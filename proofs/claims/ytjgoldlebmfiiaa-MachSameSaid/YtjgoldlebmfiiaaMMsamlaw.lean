import Derived.Test.YtjgoldlebmfiiaaMModt
import Derived.Test.YtjgoldlebmfiiaaMMsame
import Derived.Test.YtjgoldlebmfiiaaMMrsam
import Derived.Test.YtjgoldlebmfiiaaMMfine
import Derived.Test.YtjgoldlebmfiiaaMMawk
set_option linter.unusedVariables false
set_option linter.unusedSimpArgs false
section
/-
  The walk of the law MachSame: for all targets and choices it returns true, and what was in memory before the call is as it was. Conditions: those of the types.
-/
namespace Go.Proofs.Ytjgoldlebmfiiaa
open Go.RowKit

set_option maxRecDepth 100000 in
set_option maxHeartbeats 4000000 in
theorem msamlaw_walk (L0 : Int) (A0 : Option Addr) (n0 c0 : Nat) (hs0 : List Fd) (F0 : Tg) (L1 : Int) (A1 : Option Addr) (n1 c1 : Nat) (hs1 : List Fd) (F1 : Tg) (A2 : Option Addr) (n2 c2 : Nat) (zs : List Int) (w : World) (H0 : Hid (TgAt w 0 w.heap.size A0 n0 c0 hs0 F0)) (H1 : Hid (TgAt w 0 w.heap.size A1 n1 c1 hs1 F1))
    (hA : Hid (A2 = none → c2 = 0)) (hn : Hid (zs.length = n2)) (hnc : n2 ≤ c2) (hm : n2 ≤ 9223372036854775807) (hs : Hid (Sees w w.heap.size A2 (cellsU8 zs))) (hz : Hid (∀ z ∈ zs, 0 ≤ z ∧ z ≤ 255)) :
    Calls Try.prog 5 #[tv L0 A0 n0 c0, tv L1 A1 n1 c1, .slice A2 n2 c2] w fun e w' => e = .returned (.bool true) ∧ Below w.heap.size w w' := by
  obtain ⟨W1, hW1, hb1, hs1', r0, r1⟩ := boxes2q w [.int .i64 L0, .slice A0 n0 c0] [.int .i64 L1, .slice A1 n1 c1] 39 39
  have HW1 := hide hW1
  have HB1 := hide hb1
  have R0 := hide r0
  have R1 := hide r1
  have ca := awake10_any W1
  have cf0 := fun W (hb : Below w.heap.size w W) => mfine_any L0 A0 n0 c0 hs0 F0 0 w.heap.size W (hide (H0.out.below hb)) hb.size
  have cf1 := fun W (hb : Below w.heap.size w W) => mfine_any L1 A1 n1 c1 hs1 F1 0 w.heap.size W (hide (H1.out.below hb)) hb.size
  generalize mfineB F0 = b0 at cf0
  generalize mfineB F1 = b1 at cf1
  have CF0 := hide cf0
  have CF1 := hide cf1
  clear hW1 hb1 r0 r1 cf0 cf1
  go_enter Try.func5, Try.ntmps5
  go_upto_region 1 with (fail)
  rw [HW1.out]
  clear HW1
  go_wp2_with fail
  refine ca.mono ?_
  rintro e W2 ⟨rfl, hb2⟩
  have HB2 := hide (below_call HB1.out hb2)
  have R02 := hide (R0.out.call hb2)
  have R12 := hide (R1.out.call hb2)
  clear hb2 ca R0 R1 HB1
  have x0 := R02.out.cell (k := 0) rfl
  have x1 := R02.out.cell (k := 1) rfl
  go_wp2_with fail
  refine (CF0.out _ HB2.out).mono ?_
  rintro e W3 ⟨rfl, hb3⟩
  have HB3 := hide (below_call HB2.out hb3)
  have R03 := hide (R02.out.call hb3)
  have R13 := hide (R12.out.call hb3)
  clear hb3 x0 x1 R02 R12 HB2
  have x0 := R03.out.cell (k := 0) rfl
  have x1 := R03.out.cell (k := 1) rfl
  have y0 := R13.out.cell (k := 0) rfl
  have y1 := R13.out.cell (k := 1) rfl
  cases b0 with
  | false =>
    go_wp2_with fail
    refine (CF0.out _ HB3.out).mono ?_
    rintro e W4 ⟨rfl, hb4⟩
    have HB4 := hide (below_call HB3.out hb4)
    clear hb4 x0 x1 y0 y1
    go_wp2_with fail
    go_ret
    exact ⟨rfl, HB4.out⟩
  | true =>
    go_wp2_with fail
    refine (CF1.out _ HB3.out).mono ?_
    rintro e W4 ⟨rfl, hb4⟩
    have HB4 := hide (below_call HB3.out hb4)
    have R04 := hide (R03.out.call hb4)
    have R14 := hide (R13.out.call hb4)
    clear hb4 x0 x1 y0 y1 R03 R13 HB3
    have x0 := R04.out.cell (k := 0) rfl
    have x1 := R04.out.cell (k := 1) rfl
    have y0 := R14.out.cell (k := 0) rfl
    have y1 := R14.out.cell (k := 1) rfl
    cases b1 with
    | false =>
      go_wp2_with fail
      refine (CF0.out _ HB4.out).mono ?_
      rintro e W5 ⟨rfl, hb5⟩
      have HB5 := hide (below_call HB4.out hb5)
      have R15 := R14.out.call hb5
      have y0 := R15.cell (k := 0) rfl
      have y1 := R15.cell (k := 1) rfl
      clear hb5 x0 x1 R15
      go_wp2_with fail
      refine (CF1.out _ HB5.out).mono ?_
      rintro e W6 ⟨rfl, hb6⟩
      have HB6 := hide (below_call HB5.out hb6)
      clear hb6 y0 y1
      go_wp2_with fail
      go_ret
      exact ⟨rfl, HB6.out⟩
    | true =>
      clear x0 x1 y0 y1 CF0 CF1
      have hs4 := HB4.out.size
      go_wp2_with fail
      refine (new_any A2 n2 c2 zs 250 _ hA hn hnc hm (by omega) (hide ((hs.out.below HB4.out).more hs4)) hz).mono ?_
      rintro e W5 ⟨rfl, hC5, hb5⟩
      obtain ⟨g, hg⟩ : ∃ g, W4.heap.size = g := ⟨_, rfl⟩
      rw [hg] at hC5 ⊢
      have HC5 := hide hC5
      have HB5 := hide (below_call HB4.out hb5)
      have R05 := hide (R04.out.call hb5)
      have R15 := hide (R14.out.call hb5)
      have hwg : w.heap.size ≤ g := by omega
      have hgr : w.heap.size + 1 < g := by have := R14.out.lt; omega
      clear hC5 hb5 hg R04 R14 HB4
      go_upto_region 5 with (go_at_call 14; refine (dtgt_any g 3 8 _ HC5 (by omega) (by omega) (by omega)).mono ?_; rintro e W6 ⟨Lx, Ax, nx, cx, hx, Gx, rfl, htx, hx1, hx3, hxo, -, hC6, hG6⟩)
      obtain ⟨W7, hW7⟩ : ∃ V, W6.alloc (.cells #[.int .i64 Lx, .slice Ax nx cx] 39) = V := ⟨_, rfl⟩
      have hb67 : Below W6.heap.size W6 W7 := by rw [← hW7]; exact below1 _ _
      have RX7 := hide (show Row W7 W6.heap.size 39 [.int .i64 Lx, .slice Ax nx cx] by rw [← hW7]; exact Row.new W6 _ _)
      have HX7 := hide (htx.call hb67)
      have HC7 := hide (hC6.below hb67)
      have HG57 := hide (hG6.andThen (grown_below hb67 none) (fun k hk => by cases hk))
      have HB7 := hide (below_grown HB5.out HG57.out hwg HB5.out.size)
      have R07 := hide (R05.out.grown HG57.out (fun e => by injection e with e; omega))
      have R17 := hide (R15.out.grown HG57.out (fun e => by injection e with e; omega))
      have hs7 := HG57.out.size
      have hs67 := hG6.size
      have hg5 := HC5.out.lt
      rw [hW7]
      obtain ⟨gx, hgx⟩ : ∃ g, W6.heap.size = g := ⟨_, rfl⟩
      rw [hgx] at RX7 ⊢
      have hgxg : g < gx := by omega
      clear hW7 hb67 htx hC6 hG6 hgx R05 R15
      have x0 := RX7.out.cell (k := 0) rfl
      have x1 := RX7.out.cell (k := 1) rfl
      have co := otgt_any g W5.heap.size Lx Ax nx cx hx Gx W7 HC7 HX7 hx1 (by omega) (hide (fun q hq => ⟨(hxo q hq).2.1, (hxo q hq).2.2.1⟩)) hg5 hs7
      go_upto_region 6 with (go_at_call 13; refine co.mono ?_; rintro e W8 ⟨Ly, Ay, cy, hy, Gy, rfl, hty, hC8, hG8⟩)
      obtain ⟨W9, hW9⟩ : ∃ V, W8.alloc (.cells #[.int .i64 Ly, .slice Ay nx cy] 39) = V := ⟨_, rfl⟩
      have hb89 : Below W8.heap.size W8 W9 := by rw [← hW9]; exact below1 _ _
      have RY9 := hide (show Row W9 W8.heap.size 39 [.int .i64 Ly, .slice Ay nx cy] by rw [← hW9]; exact Row.new W8 _ _)
      have HY9 := hide (hty.call hb89)
      have HG79 := hide (hG8.andThen (grown_below hb89 none) (fun k hk => by cases hk))
      have HX9 := hide ((HX7.out.grown HG79.out hg5 (Nat.le_refl _)).more HG79.out.size (Nat.le_refl _))
      have HB9 := hide (below_grown HB7.out HG79.out hwg HB7.out.size)
      have R09 := hide (R07.out.grown HG79.out (fun e => by injection e with e; omega))
      have R19 := hide (R17.out.grown HG79.out (fun e => by injection e with e; omega))
      have RX9 := hide (RX7.out.grown HG79.out (fun e => by injection e with e; omega))
      have H09 := hide (H0.out.below HB9.out)
      have H19 := hide (H1.out.below HB9.out)
      have hs9 := HB9.out.size
      rw [hW9]
      obtain ⟨gy, hgy⟩ : ∃ g, W8.heap.size = g := ⟨_, rfl⟩
      rw [hgy] at RY9 ⊢
      clear hW9 hb89 hty hC8 hG8 hgy x0 x1 co R07 R17 RX7 HX7 HC7 HC5 HG57 HG79 HB5 HB7
      have a0 := after_cell (R09.out.cell (k := 0) rfl)
      have a1 := after_cell (R09.out.cell (k := 1) rfl)
      have b0 := after_cell (R19.out.cell (k := 0) rfl)
      have b1 := after_cell (R19.out.cell (k := 1) rfl)
      have x0 := after_cell (RX9.out.cell (k := 0) rfl)
      have x1 := after_cell (RX9.out.cell (k := 1) rfl)
      have y0 := after_cell (RY9.out.cell (k := 0) rfl)
      have y1 := after_cell (RY9.out.cell (k := 1) rfl)
      obtain ⟨q1, hq1⟩ : ∃ v, decide (L0 = L1 ∧ F0 = F1) = v := ⟨_, rfl⟩
      obtain ⟨q2, hq2⟩ : ∃ v, decide (Lx = Ly ∧ Gx = Gy) = v := ⟨_, rfl⟩
      have k1 : ∀ p : After W9, Calls Try.prog 18 #[tv L0 A0 n0 c0, tv L1 A1 n1 c1] p.w fun e w' => e = .returned (.bool q1) ∧ Below p.w.heap.size p.w w' := fun p => by
        rw [← hq1]; exact mchsame_any _ _ _ _ _ _ _ _ _ _ _ _ _ _ _ _ p.w (hide (H09.out.below (p.b.mono hs9))) (hide (H19.out.below (p.b.mono hs9))) (Nat.le_trans hs9 p.b.size) (Nat.le_trans hs9 p.b.size)
      have k2 : ∀ p : After W9, Calls Try.prog 19 #[tv L0 A0 n0 c0, tv L1 A1 n1 c1] p.w fun e w' => e = .returned (.bool q1) ∧ Below p.w.heap.size p.w w' := fun p => by
        rw [← hq1]; exact rsame10_any _ _ _ _ _ _ _ _ _ _ _ _ _ _ _ _ p.w (hide (H09.out.below (p.b.mono hs9))) (hide (H19.out.below (p.b.mono hs9))) (Nat.le_trans hs9 p.b.size) (Nat.le_trans hs9 p.b.size)
      have k3 : ∀ p : After W9, Calls Try.prog 18 #[tv Lx Ax nx cx, tv Ly Ay nx cy] p.w fun e w' => e = .returned (.bool q2) ∧ Below p.w.heap.size p.w w' := fun p => by
        rw [← hq2]; exact mchsame_any _ _ _ _ _ _ _ _ _ _ _ _ _ _ _ _ p.w (hide (HX9.out.below p.b)) (hide (HY9.out.below p.b)) p.b.size p.b.size
      have k4 : ∀ p : After W9, Calls Try.prog 19 #[tv Lx Ax nx cx, tv Ly Ay nx cy] p.w fun e w' => e = .returned (.bool q2) ∧ Below p.w.heap.size p.w w' := fun p => by
        rw [← hq2]; exact rsame10_any _ _ _ _ _ _ _ _ _ _ _ _ _ _ _ _ p.w (hide (HX9.out.below p.b)) (hide (HY9.out.below p.b)) p.b.size p.b.size
      have k5 : ∀ p : After W9, Calls Try.prog 18 #[tv L0 A0 n0 c0, tv L0 A0 n0 c0] p.w fun e w' => e = .returned (.bool true) ∧ Below p.w.heap.size p.w w' := fun p => by
        have := mchsame_any L0 A0 n0 c0 hs0 F0 L0 A0 n0 c0 hs0 F0 0 0 _ _ p.w (hide (H09.out.below (p.b.mono hs9))) (hide (H09.out.below (p.b.mono hs9))) (Nat.le_trans hs9 p.b.size) (Nat.le_trans hs9 p.b.size)
        rwa [show decide (L0 = L0 ∧ F0 = F0) = true from decide_eq_true ⟨rfl, rfl⟩] at this
      have k6 : ∀ p : After W9, Calls Try.prog 18 #[tv Lx Ax nx cx, tv Lx Ax nx cx] p.w fun e w' => e = .returned (.bool true) ∧ Below p.w.heap.size p.w w' := fun p => by
        have := mchsame_any Lx Ax nx cx hx Gx Lx Ax nx cx hx Gx _ _ _ _ p.w (hide (HX9.out.below p.b)) (hide (HX9.out.below p.b)) p.b.size p.b.size
        rwa [show decide (Lx = Lx ∧ Gx = Gx) = true from decide_eq_true ⟨rfl, rfl⟩] at this
      have K1 := hide k1
      have K2 := hide k2
      have K3 := hide k3
      have K4 := hide k4
      have K5 := hide k5
      have K6 := hide k6
      have e1 : (q1 == q1) = true := by cases q1 <;> rfl
      have e2 : (q2 == q2) = true := by cases q2 <;> rfl
      clear k1 k2 k3 k4 k5 k6 hq1 hq2
      refine wp_region_after (by kernel_rfl) (by kernel_rfl) ?_
      repeat (go_big_quiet_step ((first
        | (go_at_call 18; with_reducible exact after_of (K1.out _))
        | (go_at_call 18; with_reducible exact after_of (K3.out _))
        | (go_at_call 18; with_reducible exact after_of (K5.out _))
        | (go_at_call 18; with_reducible exact after_of (K6.out _))
        | (go_at_call 19; with_reducible exact after_of (K2.out _))
        | (go_at_call 19; with_reducible exact after_of (K4.out _)))))
      refine wpQuiet_nil ?_
      intro _ hw'
      obtain ⟨p1, hw''⟩ := hw'
      subst hw''
      have HBE := hide (HB9.out.trans (p1.b.mono hs9))
      clear a0 a1 b0 b1 x0 x1 y0 y1 K1 K2 K3 K4 K5 K6
      go_wp2_with fail
      go_ret
      exact ⟨rfl, HBE.out⟩
end Go.Proofs.Ytjgoldlebmfiiaa
end
