import Derived.Test.YtlcmcmocjbeocaaMGrnk
import Derived.Test.YtlcmcmocjbeocaaMFok
import Derived.Test.YtlcmcmocjbeocaaMDprog
import Derived.Deep.RegionHeld3
import Derived.Deep.DrawnRows
set_option linter.unusedVariables false
set_option linter.unusedSimpArgs false
section
/-
  The contracts of spillframelaw14's awake and function. Conditions: those of the types.
-/
namespace Go.Proofs.Ytlcmcmocjbeocaa
open Go.RowKit

def awL : List Ins := [⟨20, 1, 0, 0, 0⟩, ⟨23, 0, 0, 0, 0⟩]
theorem awL_ok : FlowOk awL := by
  refine ⟨by decide, fun k x hk ho => ?_, fun k x hk ho => ?_, fun k x hk ht => ?_⟩
  · rcases k with _ | _ | k
    · simp [awL] at hk; subst hk; exact ⟨by decide, by decide⟩
    · simp [awL] at hk; subst hk; simp at ho
    · simp [awL] at hk
  · rcases k with _ | _ | k
    · simp [awL] at hk; subst hk; simp at ho
    · simp [awL] at hk; subst hk; simp at ho
    · simp [awL] at hk
  · rcases k with _ | _ | k
    · simp [awL] at hk; subst hk; simp [termB] at ht
    · simp [awL] at hk; subst hk; simp [termB] at ht
    · simp [awL] at hk
theorem awL_lft {L : List Nat} (h : IsLft (suc awL) 2 L) : L.reverse = [0, 1] := by
  have h0 : suc awL 0 = [1] := by rw [suc_some (x := ⟨20, 1, 0, 0, 0⟩) rfl, sucX_jump 0 rfl]; rfl
  have h1 : suc awL 1 = [] := by rw [suc_some (x := ⟨23, 0, 0, 0, 0⟩) rfl, sucX_end 1 (.inl rfl)]
  have hv : Vis (suc awL) (List.replicate 2 false) [] [0] [true, true] ([] ++ [1] ++ [0]) :=
    .one_new rfl (by rw [h0]; exact .one_new rfl (by rw [h1]; exact .nil))
  have := h.one ⟨_, hv⟩
  rw [this]; rfl
set_option maxRecDepth 100000 in
set_option maxHeartbeats 2000000 in
theorem awake14_any (w : World) : Calls Try.prog 8 #[] w fun e w' => e = .returned (.bool true) ∧ Below w.heap.size w w' := by
  obtain ⟨W1, hW1⟩ : ∃ W, w.alloc (.cells #[.int .i64 20, .int .i64 1, .int .i64 0, .int .i64 0, .int .u64 0, .int .i64 23, .int .i64 0, .int .i64 0, .int .i64 0, .int .u64 0] 43) = W := ⟨_, rfl⟩
  have HW1 := hide hW1
  have R1 := hide (show Row W1 w.heap.size 43 (icells awL) by rw [← hW1]; exact Row.new w _ (icells awL))
  have B1 := hide (show Below w.heap.size w W1 by rw [← hW1]; exact below1 w _)
  have HC := hide (show CdAt W1 (some ⟨w.heap.size, 0, none⟩) 2 awL from ⟨rfl, by decide, fun k u hu => ⟨w.heap.size, 0, rfl, R1.out.lt, by rw [Nat.zero_add]; exact R1.out.cell hu⟩⟩)
  have cc := order_any (P := 0) (A1 := none) (n1 := 0) (c1 := 0) (c2 := 2) W1 HC (hide awL_ok) (by omega)
  clear hW1
  go_enter Try.func8, Try.ntmps8
  go_wp2_with fail
  rw [HW1.out]
  refine cc.mono ?_
  rintro e w2 ⟨L, hL, A, c, rfl, ho, hb2⟩
  rw [awL_lft hL] at ho ⊢
  obtain ⟨g, c', hv, -, -, -, -⟩ := own_block ho (by decide)
  injection hv with hv _ _
  subst hv
  have x0 : w2.cell? ⟨g, 1, none⟩ = some (.int .i64 1) := by rw [ho.cellAt 1 (by decide)]; rfl
  have B2 := hide (below_call B1.out hb2)
  have hlen : (toI [0, 1]).length = 2 := rfl
  rw [hlen]
  clear cc ho hb2 R1 HC HW1 hL hlen
  go_wp2_with fail
  go_ret
  exact ⟨rfl, B2.out⟩
/-- What function gives. -/
def Fn14Post (w : World) (e : Ending) (w' : World) : Prop :=
  ∃ (P : Int) (A1 : Option Addr) (n1 c1 : Nat) (A2 : Option Addr) (n2 c2 : Nat) (l : List Ins), e = .returned (fv P A1 n1 c1 A2 n2 c2) ∧ CdAt w' A2 n2 l ∧ FlowOk l ∧ 1 ≤ n2 ∧ Below w.heap.size w w'
set_option maxRecDepth 100000 in
set_option maxHeartbeats 4000000 in
theorem function14_any (A0 : Option Addr) (n0 c0 : Nat) (zs : List Int) (w : World)
    (hA : Hid (A0 = none → c0 = 0)) (hn : Hid (zs.length = n0)) (hnc : n0 ≤ c0) (hm : n0 ≤ 9223372036854775807) (hs : Hid (Sees w w.heap.size A0 (cellsU8 zs))) (hz : Hid (∀ z ∈ zs, 0 ≤ z ∧ z ≤ 255)) :
    Calls Try.prog 9 #[.slice A0 n0 c0] w (Fn14Post w) := by
  obtain ⟨W0, hW0⟩ : ∃ V, w.alloc (.cells #[.int .i64 0, .slice none 0 0, .slice none 0 0] 27) = V := ⟨_, rfl⟩
  have HW0 := hide hW0
  have HB0 := hide (show Below w.heap.size w W0 by rw [← hW0]; exact below1 _ _)
  have HR0 := hide (show Row W0 w.heap.size 27 [.int .i64 0, .slice none 0 0, .slice none 0 0] by rw [← hW0]; exact Row.new w _ _)
  have hs0 : W0.heap.size = w.heap.size + 1 := by rw [← hW0]; simp
  have HS0 := hide hs0
  clear hW0 hs0
  go_enter Try.func9, Try.ntmps9
  go_upto_region 1 with (fail)
  rw [HW0.out]
  clear HW0
  go_wp2_with fail
  refine (new_any A0 n0 c0 zs 250 W0 hA hn hnc hm (by omega) (hide ((hs.out.below HB0.out).more HB0.out.size)) hz).mono ?_
  rintro e W1 ⟨rfl, hC1, hb1⟩
  obtain ⟨g, hg⟩ : ∃ g, W0.heap.size = g := ⟨_, rfl⟩
  have HB1 := hide (below_call HB0.out hb1)
  have HR1 := hide (HR0.out.call hb1)
  rw [hg] at hC1 ⊢
  have HC1 := hide hC1
  have hgw : g = w.heap.size + 1 := by have := HS0.out; omega
  have HGW := hide hgw
  have hg1 := hC1.lt
  have hwg : w.heap.size < g := by omega
  clear hC1 hb1 hg hgw hs hz hA hn HB0 HR0 HS0
  go_upto_region 3 with (go_at_call 23; refine (prog_any g 3 16 W1 HC1 (by omega) (by omega) (by omega)).mono ?_; rintro e W2 ⟨A, n, c, hs, F, rfl, hpg, hgd, hC2, hG2⟩)
  obtain ⟨W3, hW3⟩ : ∃ V, W2.alloc (.cells #[.slice A n c] 48) = V := ⟨_, rfl⟩
  have hb3 : Below W2.heap.size W2 W3 := by rw [← hW3]; exact below1 _ _
  have RB := hide (show Row W3 W2.heap.size 48 [.slice A n c] by rw [← hW3]; exact Row.new W2 _ _)
  have RR := hide ((HR1.out.grown hG2 (fun e => by injection e with e; omega)).call hb3)
  have HC3 := hide (hC2.below hb3)
  have HP3 := hide ((hpg.below hb3).more hb3.size (Nat.le_refl _))
  have HB3 := hide (show Below w.heap.size w W3 from (below_grown HB1.out hG2 (by omega) HB1.out.size).trans (hb3.mono (Nat.le_trans HB1.out.size hG2.size)))
  have hn1 : 1 ≤ n ∧ n ≤ 3 := by have h1 := hgd.one; have h2 := hgd.few; have h3 := hpg.len; omega
  obtain ⟨hn1a, hn1b⟩ := hn1
  have HE := hide hgd.err
  have hgl : W1.heap.size ≤ W2.heap.size := hG2.size
  obtain ⟨gt, hgt⟩ : ∃ q, W2.heap.size = q := ⟨_, rfl⟩
  rw [hW3]
  rw [hgt] at RB hgl ⊢
  have hgtn : gt ≠ g := by omega
  have hgtw : gt ≠ w.heap.size := by omega
  obtain ⟨lo1, hlo⟩ : ∃ q, W1.heap.size = q := ⟨_, rfl⟩
  rw [hlo] at HP3 hg1 hgl
  clear hW3 hb3 hpg hgd hC2 hG2 hgt HR1 HC1 HB1 hlo
  obtain ⟨bA, oA, -, -, -, -, -, -, -, -, rfl, -, -, -, -, -, -, -⟩ := fn_at HP3.out (k := 0) (by omega)
  have b0 := RB.out.cell (k := 0) rfl
  have cn := next_any g (n : Int) W3.drew (hide (HC3.out.below (Below.refl _ _).drew)) (by omega) (by omega)
  have HSL := hide (show lo1 ≤ W3.heap.size by have h6 := hgl; have h7 := RB.out.lt; omega)
  go_region_law
    (first
      | (go_simp; go_at_call 24; refine cn.mono ?_; rintro e w5 ⟨v, rfl, v0, v1, hC5, hG5, hz5⟩; have m5 := ((RB.out.drew.grown hG5 (fun e => hgtn (by injection e))).cell (k := 0) rfl : w5.cell? ⟨gt, 0, none⟩ = some (.slice (some ⟨bA, oA, none⟩) n c)); have RR5 := hide (RR.out.drew.grown hG5 (fun e => by injection e with e; omega)); have P5 := hide ((HP3.out.drewN 1).grown hG5 hg1 (Nat.le_refl _)); have B5 := hide (below_grown HB3.out.drew hG5 (by omega) HB3.out.drew.size); have hl5 := hide (Nat.le_trans HSL.out hG5.size); have hG5' := hide hG5.size; obtain ⟨v', rfl⟩ : ∃ k : Nat, v = (k : Int) := ⟨v.toNat, by omega⟩; obtain ⟨b', o', P, A1, n1, c1, A2, n2, c2, f, he, -, hf, -, hd, d0, d1, d2⟩ := fn_at P5.out (show v' < n by omega); injection he with he; injection he with he1 he2; subst he1 he2; have x0 := RR5.out.cell (k := 0) rfl; have x1 := RR5.out.cell (k := 1) rfl; have x2 := RR5.out.cell (k := 2) rfl; have f0 := RR5.out.free 0; have f1 := RR5.out.free 1; have f2 := RR5.out.free 2; have FE := hide (pg_fn HE.out hf); have HD := hide hd; clear hf hd cn hC5 hG5 hz5))
  all_goals
    obtain ⟨W7, hW7⟩ : ∃ W, ((w5.setCell ⟨w.heap.size, 0, none⟩ (.int .i64 P)).setCell ⟨w.heap.size, 1, none⟩ (.slice A1 n1 c1)).setCell ⟨w.heap.size, 2, none⟩ (.slice A2 n2 c2) = W := ⟨_, rfl⟩
    have R7 := hide (show Row W7 w.heap.size 27 [.int .i64 P, .slice A1 n1 c1, .slice A2 n2 c2] by rw [← hW7]; exact ((RR5.out.set_ 0 _).set_ 1 _).set_ 2 _)
    have B7 := hide (show Below w.heap.size w W7 by rw [← hW7]; exact ((B5.out.setCell (p := ⟨w.heap.size, 0, none⟩) (Nat.le_refl _) _).setCell (p := ⟨w.heap.size, 1, none⟩) (Nat.le_refl _) _).setCell (p := ⟨w.heap.size, 2, none⟩) (Nat.le_refl _) _)
    have hw3 : (W3.drewN 1).heap.size ≤ W7.heap.size := by rw [← hW7]; simp only [World.size_setCell]; exact Nat.le_trans (Nat.le_refl _) hG5'.out
    have C7 := hide (show CdAt W7 A2 n2 f.code from ⟨HD.out.l2, (by have h := (fnE_zero.1 FE.out).1; have h2 : f.code.length = n2 := HD.out.l2; omega), (HD.out.s2.keepF HD.out.f2 (fun p h1 _ => by
      rw [← hW7, World.cell?_setCell_other _ _ _ _ (fun e => by have e2 := congrArg Addr.block e; simp only at e2; omega), World.cell?_setCell_other _ _ _ _ (fun e => by have e2 := congrArg Addr.block e; simp only at e2; omega), World.cell?_setCell_other _ _ _ _ (fun e => by have e2 := congrArg Addr.block e; simp only at e2; omega)])).more hw3⟩)
    have n21 : 1 ≤ n2 := by have h := flow_one FE.out; have h2 : f.code.length = n2 := HD.out.l2; omega
    have FIN := hide (show Fn14Post w (.returned (fv P A1 n1 c1 A2 n2 c2)) W7 from ⟨P, A1, n1, c1, A2, n2, c2, f.code, rfl, C7.out, flow_ok FE.out, n21, B7.out⟩)
    rw [hW7]
    clear hW7 m5 d0 d1 d2 x0 x1 x2 f0 f1 f2 hw3
    go_wp2_with fail
    have y0 := R7.out.cell (k := 0) rfl
    have y1 := R7.out.cell (k := 1) rfl
    have y2 := R7.out.cell (k := 2) rfl
    exact bodyPost_ret (v := fv P A1 n1 c1 A2 n2 c2) (by simp [results, Try.results9, go_sem, y0, y1, y2]) rfl FIN.out
end Go.Proofs.Ytlcmcmocjbeocaa
end
