/-
  The walk of the law on limits: the other two cases, and all of it. Conditions: those of the types; the table of operations lies as its initialiser lays it.
-/
import Derived.Test.YtlfifdpklmnmpaaDoorPlimlaw
namespace Go.Proofs.YtlfifdpklmnmpaaDoor
open Go.RowKit

theorem two_pg {w : World} {g B : Nat} {h1 h2 : Hd} {f1 f2 : Fn} (hg : g < B) (r : Row w g 34 (hcells [h1, h2])) (H1 : HdAt w 0 B h1 f1) (H2 : HdAt w 0 B h2 f2) : PgAt w 0 B (some ⟨g, 0, none⟩) 2 2 [h1, h2] [f1, f2] :=
  ⟨rfl, cap_some _ (Nat.le_refl _) (by omega), Far.zero _, fun k u hu => ⟨g, 0, rfl, hg, by rw [Nat.zero_add]; exact r.cell hu⟩, ⟨rfl, fun k h f e1 e2 => by
    match k with
    | 0 => simp at e1 e2; subst e1 e2; exact H1
    | 1 => simp at e1 e2; subst e1 e2; exact H2
    | k + 2 => simp at e1⟩⟩

set_option maxRecDepth 100000 in
set_option maxHeartbeats 4000000 in
theorem limlaw2 (x y n : Int) (w : World) (hT : Hid (Shapes w)) (hx0 : -128 ≤ x) (hx1 : x ≤ 127) (hn : Int.tmod x 2 = n) (hn0 : -1 ≤ n) (hn1 : n ≤ 1) (hy0 : 0 ≤ y) (hy1 : y ≤ 255) (hy : y % 3 = 2) :
    Calls Tryd.prog 4 #[.int .i8 x, .int .u8 y] w fun e w' => e = .returned (.bool true) ∧ Below w.heap.size w w' := by
  obtain ⟨W, hW, hbW, hsW, r0, r1, r2⟩ := boxes3 w [.int .i64 23, .int .i64 0, .int .i64 0, .int .i64 0, .int .u64 0] [.int .i64 0, .slice none 0 0, .slice (some ⟨w.heap.size, 0, none⟩) 1 1, .int .i64 (8 + n), .slice none 0 0, .slice (some ⟨w.heap.size, 0, none⟩) 1 1] [.slice (some ⟨w.heap.size + 1, 0, none⟩) 2 2] 38 34 28
  have HW := hide hW
  have HB := hide hbW
  have h1 : HdAt W 0 W.heap.size (retH w.heap.size) retF := ret_hd (by omega) r0
  have h2 : HdAt W 0 W.heap.size ⟨8 + n, none, 0, 0, some ⟨w.heap.size, 0, none⟩, 1, 1⟩ ⟨8 + n, [], [retI]⟩ := ⟨rfl, h1.l1, h1.l2, h1.k1, h1.k2, h1.f1, h1.f2, h1.s1, h1.s2⟩
  have hpg := hide (two_pg (by omega) r1 h1 h2)
  have cc := check_any (some ⟨w.heap.size + 1, 0, none⟩) 2 2 _ _ 0 W.heap.size W hpg (Nat.le_refl _) (hide (hT.out.below hbW))
  have hpe : pgE [retF, ⟨8 + n, [], [retI]⟩] = if n = 1 then 4 else 0 := by
    rw [pgE_two]
    have := fnE_rep 2 1 (8 + n) (by omega)
    rw [if_neg (by omega)] at this
    rw [show ([retI] : List Ins) = List.replicate 1 retI from rfl, this]
    by_cases h : n = 1
    · subst h; rfl
    · rw [if_neg h, if_neg]
      rw [Bool.not_eq_false, withB_true]; omega
  rw [hpe] at cc
  clear hW hbW hsW r0 r1 r2 h1 h2 hpe
  by_cases hnp : n ≤ 0
  · rw [if_neg (by omega)] at cc
    have CC := hide cc
    clear cc
    go_enter Tryd.func4, Tryd.ntmps4
    go_wp2_with fail
    refine (awake_any _).mono ?_
    rintro e w' ⟨rfl, rfl⟩
    go_wp2_with fail
    rw [HW.out]
    refine (CC.out).mono ?_
    rintro e w2 ⟨rfl, hb2⟩
    have HB2 := hide (below_call HB.out hb2)
    clear hb2
    go_wp2_with fail
    go_ret
    exact ⟨rfl, HB2.out⟩
  · rw [if_pos (by omega)] at cc
    have CC := hide cc
    clear cc
    go_enter Tryd.func4, Tryd.ntmps4
    go_wp2_with fail
    refine (awake_any _).mono ?_
    rintro e w' ⟨rfl, rfl⟩
    go_wp2_with fail
    rw [HW.out]
    refine (CC.out).mono ?_
    rintro e w2 ⟨rfl, hb2⟩
    have HB2 := hide (below_call HB.out hb2)
    clear hb2
    go_wp2_with fail
    go_ret
    exact ⟨rfl, HB2.out⟩

/-- What the second loop keeps. -/
def FillI (w : World) (L k : Nat) (wr : World) : Prop :=
  wr.ownsRow (w.heap.size + 1 + 1 + 1) 38 5 (.slice (some ⟨w.heap.size + 1 + 1 + 1, 0, none⟩) L L) L (icells (List.replicate k retI ++ List.replicate (L - k) zerI)) ∧
  Row wr (w.heap.size + 1 + 1) 28 [.slice (some ⟨w.heap.size + 1, 0, none⟩) 2 2] ∧ Row wr (w.heap.size + 1) 34 (hcells (List.replicate 2 (retH w.heap.size))) ∧ Row wr w.heap.size 38 (icells [retI]) ∧ Below w.heap.size w wr
theorem FillI.cells {w wr : World} {L k : Nat} (h : FillI w L k wr) (hk : k < L) : (wr.cell? ⟨w.heap.size + 1 + 1 + 1, k * 5, none⟩ = some (.int .i64 0) ∧ wr.cell? ⟨w.heap.size + 1 + 1 + 1, k * 5 + 1, none⟩ = some (.int .i64 0) ∧ wr.cell? ⟨w.heap.size + 1 + 1 + 1, k * 5 + 2, none⟩ = some (.int .i64 0) ∧
    wr.cell? ⟨w.heap.size + 1 + 1 + 1, k * 5 + 3, none⟩ = some (.int .i64 0) ∧ wr.cell? ⟨w.heap.size + 1 + 1 + 1, k * 5 + 4, none⟩ = some (.int .u64 0)) ∧ ∀ j, wr.frozen? ⟨w.heap.size + 1 + 1 + 1, j, none⟩ = false := by
  have hx : (List.replicate k retI ++ List.replicate (L - k) zerI)[k]? = some zerI := by
    rw [List.getElem?_append_right (by simp), List.length_replicate, Nat.sub_self, List.getElem?_replicate, if_pos (by omega)]
  have g := fun j hj => flat_at icell_len _ k _ hx j hj
  have c := fun j u (hu : (icells (List.replicate k retI ++ List.replicate (L - k) zerI))[j]? = some u) => (by
    have := h.1.cells (g := w.heap.size + 1 + 1 + 1) rfl j u hu
    rwa [WideShapes.add_plain, Nat.zero_add] at this : wr.cell? ⟨w.heap.size + 1 + 1 + 1, j, none⟩ = some u)
  exact ⟨⟨c _ _ (g 0 (by omega)), c _ _ (g 1 (by omega)), c _ _ (g 2 (by omega)), c _ _ (g 3 (by omega)), c _ _ (g 4 (by omega))⟩, fun j => h.1.frozenAt j⟩
theorem FillI.step {w wr : World} {L k : Nat} (h : FillI w L k wr) (hk : k < L) : FillI w L (k + 1) (((((wr.setCell ⟨w.heap.size + 1 + 1 + 1, k * 5, none⟩ (.int .i64 23)).setCell ⟨w.heap.size + 1 + 1 + 1, k * 5 + 1, none⟩ (.int .i64 0)).setCell ⟨w.heap.size + 1 + 1 + 1, k * 5 + 2, none⟩ (.int .i64 0)).setCell ⟨w.heap.size + 1 + 1 + 1, k * 5 + 3, none⟩ (.int .i64 0)).setCell ⟨w.heap.size + 1 + 1 + 1, k * 5 + 4, none⟩ (.int .u64 0)) := by
  obtain ⟨ho, rX, rF, rE, hb⟩ := h
  have s := ((((ho.stored (k * 5) (.int .i64 23)).1.stored (k * 5 + 1) (.int .i64 0)).1.stored (k * 5 + 2) (.int .i64 0)).1.stored (k * 5 + 3) (.int .i64 0)).1.stored (k * 5 + 4) (.int .u64 0)
  rw [ret_stores _ k (by simp; omega), rep_set L k hk] at s
  have far : ∀ {g t : Nat} {cs : List Value} {w0 : World} (j : Nat) (u : Value), Row w0 g t cs → g ≠ w.heap.size + 1 + 1 + 1 → Row (w0.setCell ⟨w.heap.size + 1 + 1 + 1, j, none⟩ u) g t cs := fun j u r hne => r.far (p := ⟨_, j, none⟩) hne u
  exact ⟨s.1, far _ _ (far _ _ (far _ _ (far _ _ (far _ _ rX (by omega)) (by omega)) (by omega)) (by omega)) (by omega), far _ _ (far _ _ (far _ _ (far _ _ (far _ _ rF (by omega)) (by omega)) (by omega)) (by omega)) (by omega), far _ _ (far _ _ (far _ _ (far _ _ (far _ _ rE (by omega)) (by omega)) (by omega)) (by omega)) (by omega),
    ((((hb.setCell (by simp; omega) _).setCell (by simp; omega) _).setCell (by simp; omega) _).setCell (by simp; omega) _).setCell (by simp; omega) _⟩

set_option maxRecDepth 100000 in
set_option maxHeartbeats 4000000 in
theorem limlaw1 (x y n : Int) (L : Nat) (w : World) (hT : Hid (Shapes w)) (hx0 : -128 ≤ x) (hx1 : x ≤ 127) (hn : Int.tmod x 2 = n) (hn0 : -1 ≤ n) (hn1 : n ≤ 1) (hy0 : 0 ≤ y) (hy1 : y ≤ 255) (hy : y % 3 = 1) (hL : Hid ((L : Int) = 1024 + n)) :
    Calls Tryd.prog 4 #[.int .i8 x, .int .u8 y] w fun e w' => e = .returned (.bool true) ∧ Below w.heap.size w w' := by
  obtain ⟨i1, hi, hz0, hz1, hz2⟩ := info_parts Tryd.info38
  obtain ⟨W, hW, hbW, hsW, r0, r1, r2⟩ := boxes3 w [.int .i64 23, .int .i64 0, .int .i64 0, .int .i64 0, .int .u64 0] [.int .i64 0, .slice none 0 0, .slice (some ⟨w.heap.size, 0, none⟩) 1 1, .int .i64 0, .slice none 0 0, .slice (some ⟨w.heap.size, 0, none⟩) 1 1] [.slice (some ⟨w.heap.size + 1, 0, none⟩) 2 2] 38 34 28
  have HW := hide hW
  have HB := hide hbW
  have HS := hide hsW
  have R0 := hide r0
  have R1 := hide r1
  have R2 := hide r2
  have hL1 : L ≤ 1025 := by have := hL.out; omega
  have hL2 : 1023 ≤ L := by have := hL.out; omega
  clear hW hbW hsW r0 r1 r2
  go_enter Tryd.func4, Tryd.ntmps4
  go_wp2_with fail
  refine (awake_any _).mono ?_
  rintro e w' ⟨rfl, rfl⟩
  go_wp2_with (at_make; refine wpList_make_full _ rfl (.tmp 47) (.tmp 47) 32 rfl (w.heap.size + 1 + 1 + 1) 38 i1 (.agg #[.int .i64 0, .int .i64 0, .int .i64 0, .int .i64 0, .int .u64 0]) 5 Tryd.underlying32 hi hz0 hz1 .i64 .i64 (1024 + n) (1024 + n) L rfl rfl hL.out.symm hL.out.symm (by rw [hz2]; omega) (by unfold maxLen; omega) (by simp) ?_)
  intro w1 ho1 hg1
  rw [HW.out] at hg1
  have HF : Hid (FillI w L 0 w1) := by
    refine hide ⟨?_, R2.out.grown hg1 (fun e => by cases e), R1.out.grown hg1 (fun e => by cases e), R0.out.grown hg1 (fun e => by cases e), HB.out.grown hg1 HB.out.size (fun j hj => by cases hj)⟩
    have e : icells (List.replicate 0 retI ++ List.replicate (L - 0) zerI) = (madeCells (Value.agg #[.int .i64 0, .int .i64 0, .int .i64 0, .int .i64 0, .int .u64 0]).cells (L * 5)).toList := (made_icells L).symm
    rw [e]
    exact ho1
  clear ho1 hg1 HW R0 R1 R2 hy
  go_wp2_with fail
  go_loopw [11] (fun s wr => ∃ k : Nat, k ≤ L ∧ s = .int .i64 k ∧ Hid (FillI w L k wr)) (fun s _ => L - (intOf s).toNat)
  case atStart => exact ⟨0, by omega, rfl, HF⟩
  case round =>
    obtain ⟨k, hk, rfl, hF⟩ := hrel
    by_cases hlt : k < L
    · obtain ⟨⟨x0, x1, x2, x3, x4⟩, fz⟩ := hF.out.cells hlt
      have z0 := fz (k * 5)
      have z1 := fz (k * 5 + 1)
      have z2 := fz (k * 5 + 2)
      have z3 := fz (k * 5 + 3)
      have z4 := fz (k * 5 + 4)
      have hkz : (0 : Int) ≤ (k : Int) := by omega
      have hkz' : (k : Int) < (L : Int) := by omega
      have HN := hide (hF.out.step hlt)
      clear fz
      go_wp2_with fail
      go_roundw
      case rel => exact ⟨k + 1, by omega, by go_num, HN⟩
      case measure => simp [intOf]; omega
    · obtain rfl : k = L := by omega
      obtain ⟨ho, rX, rF, rE, hb⟩ := hF.out
      have u0 := rX.cell (k := 0) rfl
      have u1 := rF.cell (k := 5) rfl
      have u2 := rF.free 5
      obtain ⟨wn, hwn⟩ : ∃ wn, wr.setCell ⟨w.heap.size + 1, 5, none⟩ (.slice (some ⟨w.heap.size + 1 + 1 + 1, 0, none⟩) k k) = wn := ⟨_, rfl⟩
      have rX2 := rX.far (p := ⟨w.heap.size + 1, 5, none⟩) (by simp) (.slice (some ⟨w.heap.size + 1 + 1 + 1, 0, none⟩) k k)
      have rF2 := rF.set_ 5 (.slice (some ⟨w.heap.size + 1 + 1 + 1, 0, none⟩) k k)
      have rE2 := rE.far (p := ⟨w.heap.size + 1, 5, none⟩) (by simp) (.slice (some ⟨w.heap.size + 1 + 1 + 1, 0, none⟩) k k)
      have hb2 := hb.setCell (p := ⟨w.heap.size + 1, 5, none⟩) (by simp) (.slice (some ⟨w.heap.size + 1 + 1 + 1, 0, none⟩) k k)
      have hs2 : Sees (wr.setCell ⟨w.heap.size + 1, 5, none⟩ (.slice (some ⟨w.heap.size + 1 + 1 + 1, 0, none⟩) k k)) wr.heap.size (some ⟨w.heap.size + 1 + 1 + 1, 0, none⟩) (icells (List.replicate k retI)) := by
        have h0 := Sees.ownN ho
        rw [Nat.sub_self, List.replicate_zero, List.append_nil] at h0
        exact h0.keepF (lo := w.heap.size + 1 + 1 + 1) (fun a ha => by injection ha with ha; subst ha; exact Nat.le_refl _) fun p hp _ => World.cell?_setCell_other _ _ _ _ (fun e => by subst e; simp at hp; omega)
      have hsz : (wr.setCell ⟨w.heap.size + 1, 5, none⟩ (.slice (some ⟨w.heap.size + 1 + 1 + 1, 0, none⟩) k k)).heap.size = wr.heap.size := by simp [World.setCell]
      rw [hwn] at rX2 rF2 rE2 hb2 hs2 hsz
      rw [← hsz] at hs2
      have v0 := rX2.cell (k := 0) rfl
      have h1 : HdAt wn 0 wn.heap.size (retH w.heap.size) retF := ret_hd (by have := rE2.lt; omega) rE2
      have h2 : HdAt wn 0 wn.heap.size ⟨0, none, 0, 0, some ⟨w.heap.size + 1 + 1 + 1, 0, none⟩, k, k⟩ ⟨0, [], List.replicate k retI⟩ := ⟨rfl, rfl, by simp, cap_none, cap_some _ (Nat.le_refl k) (show k ≤ 8796093022208 by omega), Far.zero _, Far.zero _, Sees.nil_ _ _ _, hs2⟩
      have hpg := hide (two_pg (by have := rF2.lt; omega) rF2 h1 h2)
      have cc := check_any (some ⟨w.heap.size + 1, 0, none⟩) 2 2 _ _ 0 wn.heap.size wn hpg (Nat.le_refl _) (hide (hT.out.keep hb2 hT.out.pos))
      have hpe : pgE [retF, ⟨0, [], List.replicate k retI⟩] = if 1024 < k then 3 else 0 := by
        rw [pgE_two, fnE_rep 2 k 0 (by omega)]
        rfl
      rw [hpe] at cc
      have HB2 := hide hb2
      have HWN := hide hwn
      clear hwn rX rF rE hb ho rX2 rF2 rE2 hb2 hs2 hsz h1 h2 hpe hF hlt
      by_cases hnp : n ≤ 0
      · rw [if_neg (by have := hL.out; omega)] at cc
        have CC := hide cc
        clear cc
        go_wp2_with fail
        rw [HWN.out]
        refine (CC.out).mono ?_
        rintro e w2 ⟨rfl, hb3⟩
        have HB3 := hide (below_call HB2.out hb3)
        clear hb3
        go_wp2_with fail
        go_ret
        exact ⟨rfl, HB3.out⟩
      · rw [if_pos (by have := hL.out; omega)] at cc
        have CC := hide cc
        clear cc
        go_wp2_with fail
        rw [HWN.out]
        refine (CC.out).mono ?_
        rintro e w2 ⟨rfl, hb3⟩
        have HB3 := hide (below_call HB2.out hb3)
        clear hb3
        go_wp2_with fail
        go_ret
        exact ⟨rfl, HB3.out⟩

theorem limlaw_walk (x y : Int) (w : World) (hT : Hid (Shapes w)) (hx0 : -128 ≤ x) (hx1 : x ≤ 127) (hy0 : 0 ≤ y) (hy1 : y ≤ 255) :
    Calls Tryd.prog 4 #[.int .i8 x, .int .u8 y] w fun e w' => e = .returned (.bool true) ∧ Below w.heap.size w w' := by
  obtain ⟨n, hn⟩ : ∃ n, Int.tmod x 2 = n := ⟨_, rfl⟩
  have h1 := Int.tmod_lt_of_pos x (show 0 < (2 : Int) by omega)
  have h2 := Int.lt_tmod_of_pos x (show 0 < (2 : Int) by omega)
  rw [hn] at h1 h2
  rcases (show y % 3 = 0 ∨ y % 3 = 1 ∨ y % 3 = 2 by omega) with hy | hy | hy
  · obtain ⟨L, hL⟩ := Int.eq_ofNat_of_zero_le (show 0 ≤ 80 + n by omega)
    exact limlaw0 x y n L w hT hx0 hx1 hn (by omega) (by omega) hy0 hy1 hy (hide hL.symm)
  · obtain ⟨L, hL⟩ := Int.eq_ofNat_of_zero_le (show 0 ≤ 1024 + n by omega)
    exact limlaw1 x y n L w hT hx0 hx1 hn (by omega) (by omega) hy0 hy1 hy (hide hL.symm)
  · exact limlaw2 x y n w hT hx0 hx1 hn (by omega) (by omega) hy0 hy1 hy
end Go.Proofs.YtlfifdpklmnmpaaDoor
