/-
  The walk of the law on limits. Conditions: those of the types; the table of operations lies as its initialiser lays it.
-/
import Derived.Test.YtlfifdpklmnmpaaDoorPlimm
import Derived.Test.YtlfifdpklmnmpaaDoorPcheck
import Derived.Test.YtlfifdpklmnmpaaDoorPawake
import Derived.Deep.LoopGhost
namespace Go.Proofs.YtlfifdpklmnmpaaDoor
open Go.RowKit

theorem Tryd.info34 : (Tryd.prog.info? 34).map (fun i => (i.zero, i.size, i.bytes)) = some (some (.agg #[.int .i64 0, .slice none 0 0, .slice none 0 0]), 3, 56) := by kernel_rfl
theorem Tryd.info38 : (Tryd.prog.info? 38).map (fun i => (i.zero, i.size, i.bytes)) = some (some (.agg #[.int .i64 0, .int .i64 0, .int .i64 0, .int .i64 0, .int .u64 0]), 5, 40) := by kernel_rfl

theorem cap_none : Cap none 0 0 := ⟨fun _ => rfl, Nat.le_refl _, by omega⟩
theorem cap_some {n c : Nat} (a : Addr) (h : n ≤ c) (h' : n ≤ 8796093022208) : Cap (some a) n c := ⟨(fun e => by cases e), h, h'⟩
/-- Equal heads stand for equal functions. -/
theorem ret_hd {w : World} {E B : Nat} (hE : E < B) (r : Row w E 38 (icells [retI])) : HdAt w 0 B (retH E) retF :=
  ⟨rfl, rfl, rfl, cap_none, cap_some _ (Nat.le_refl 1) (show 1 ≤ 8796093022208 by omega), Far.zero _, Far.zero _, Sees.nil_ _ _ _, fun k u hu => ⟨E, 0, rfl, hE, by rw [Nat.zero_add]; exact r.cell hu⟩⟩
theorem ret_pg {w : World} {E B : Nat} {A : Option Addr} {k c : Nat} (hE : E < B) (r : Row w E 38 (icells [retI])) (hc : Cap A k c) (hs : Sees w B A (hcells (List.replicate k (retH E)))) : PgAt w 0 B A k c (List.replicate k (retH E)) (List.replicate k retF) :=
  ⟨by simp, hc, Far.zero _, hs, ⟨by simp, fun j h f h1 h2 => by
    obtain rfl := List.eq_of_mem_replicate (List.mem_of_getElem? h1)
    obtain rfl := List.eq_of_mem_replicate (List.mem_of_getElem? h2)
    exact ret_hd hE r⟩⟩
theorem hrep_succ (k E : Nat) : hcells (List.replicate k (retH E)) ++ [.int .i64 0, .slice none 0 0, .slice (some ⟨E, 0, none⟩) 1 1] = hcells (List.replicate (k + 1) (retH E)) := by
  rw [List.replicate_succ', hcells_append]; rfl

theorem new_cells (w : World) (xs : List Value) (t : TypeId) : ∀ (j : Nat) (u : Value), xs[j]? = some u → (w.alloc (.cells xs.toArray t)).cell? ((⟨w.heap.size, 0, none⟩ : Addr).add j) = some u := by
  intro j u hu
  rw [WideShapes.add_plain, Nat.zero_add]
  exact (Row.new w t xs).cell hu
theorem head_one (E : Nat) : ∀ u ∈ ([.int .i64 0, .slice none 0 0, .slice (some ⟨E, 0, none⟩) 1 1] : List Value), u.oneCell' = true := hcells_oneCell [retH E]
/-- What the first loop keeps. -/
def GrowI (w : World) (L k : Nat) (wr : World) : Prop :=
  ∃ (A : Option Addr) (c : Nat), Cap A k c ∧ Row wr (w.heap.size + 1 + 1) 28 [.slice A k c] ∧ Row wr w.heap.size 38 (icells [retI]) ∧ Sees wr wr.heap.size A (hcells (List.replicate k (retH w.heap.size))) ∧ Below w.heap.size w wr

set_option maxRecDepth 100000 in
set_option maxHeartbeats 4000000 in
theorem limlaw0 (x y n : Int) (L : Nat) (w : World) (hT : Hid (Shapes w)) (hx0 : -128 ≤ x) (hx1 : x ≤ 127) (hn : Int.tmod x 2 = n) (hn0 : -1 ≤ n) (hn1 : n ≤ 1) (hy0 : 0 ≤ y) (hy1 : y ≤ 255) (hy : y % 3 = 0) (hL : Hid ((L : Int) = 80 + n)) :
    Calls Tryd.prog 4 #[.int .i8 x, .int .u8 y] w fun e w' => e = .returned (.bool true) ∧ Below w.heap.size w w' := by
  obtain ⟨i0, hi, hz0, hz1, hz2⟩ := info_parts Tryd.info34
  obtain ⟨W, hW, hbW, hsW, r0, r1, r2⟩ := boxes3 w [.int .i64 23, .int .i64 0, .int .i64 0, .int .i64 0, .int .u64 0] [.int .i64 0, .slice none 0 0, .slice (some ⟨w.heap.size, 0, none⟩) 1 1, .int .i64 0, .slice none 0 0, .slice (some ⟨w.heap.size, 0, none⟩) 1 1] [.slice (some ⟨w.heap.size + 1, 0, none⟩) 2 2] 38 34 28
  have HW := hide hW
  have HI : Hid (GrowI w L 2 W) := hide ⟨some ⟨w.heap.size + 1, 0, none⟩, 2, cap_some _ (by omega) (by omega), r2, r0, fun k u hu => ⟨w.heap.size + 1, 0, rfl, by omega, by rw [Nat.zero_add]; exact r1.cell hu⟩, hbW⟩
  clear hW hbW r0 r1 r2
  go_enter Tryd.func4, Tryd.ntmps4
  go_wp2_with fail
  refine (awake_any _).mono ?_
  rintro e w' ⟨rfl, rfl⟩
  go_wp2_with fail
  rw [HW.out]
  clear HW hy
  go_loopg [] 81 (fun gg wr => ∃ k : Nat, 2 ≤ k ∧ k ≤ L ∧ L - k ≤ gg ∧ Hid (GrowI w L k wr))
  case atStart => exact ⟨2, by omega, by have := hL.out; omega, by have := hL.out; omega, HI⟩
  case round =>
    obtain ⟨k, hk0, hk1, hgg, hG⟩ := hrel
    obtain ⟨A, c, hcap, rX, rE, hsee, hb⟩ := hG.out
    have x0 := rX.cell (k := 0) rfl
    have Hcap := hide hcap
    have HX := hide rX
    have HE := hide rE
    have Hsee := hide hsee
    have HB := hide hb
    have hks := hide hb.size
    clear hcap rX rE hsee hb hG
    by_cases hlt : k < L
    · have hlz : (k : Int) < 80 + n := by have := hL.out; omega
      have hk80 : k ≤ 81 := by have := hL.out; omega
      go_wp2_with (at_builtin; refine wpList_append_seesN rfl (.const (.slice none 0 0)) (.tmp 36) 26 rfl wr.heap.size 34 i0 (.agg #[.int .i64 0, .slice none 0 0, .slice none 0 0]) 3 56 Tryd.underlying26 hi hz0 hz1 hz2 rfl (by decide) (.slice none 0 0) 0 [] rfl (World.ownsRow_nil _ _ _ _) wr.heap.size A k c (hcells (List.replicate k (retH w.heap.size))) rfl (hide Hcap.out.1) (hide (by rw [hcells_length]; simp)) Hsee (hide Hcap.out.2.1) (hcells_oneCell _) (by unfold maxLen; omega) (by omega) (Nat.le_refl _) ?_)
      intro v1 w1 ho1 hg1
      have rE1 := HE.out.grown hg1 (fun e => by cases e)
      have rX1 := HX.out.grown hg1 (fun e => by cases e)
      have hs1 := hg1.size
      have HB1 := hide (HB.out.grown hg1 hks.out (fun j hj => by cases hj))
      have HO1 := hide ho1
      have HE1 := hide rE1
      have HX1 := hide rX1
      have HS1 := hide hs1
      clear ho1 hg1 rE1 rX1 hs1 x0
      go_wp2_with (at_builtin; refine wpList_append_own _ rfl (.tmp 37) (.tmp 40) 26 rfl wr.heap.size 34 i0 (.agg #[.int .i64 0, .slice none 0 0, .slice none 0 0]) 3 56 Tryd.underlying26 hi hz0 hz1 hz2 rfl (by decide) v1 k (hcells (List.replicate k (retH w.heap.size))) rfl (HO1.out.alloc _) ⟨w1.heap.size, 0, none⟩ 1 1 [.int .i64 0, .slice none 0 0, .slice (some ⟨w.heap.size, 0, none⟩) 1 1] rfl rfl (new_cells _ _ _) (head_one _) (by unfold maxLen; omega) (by omega) (by simp; have := HS1.out; omega) ?_)
      intro v2 w2 ho2 hg2 _
      have hX : w.heap.size + 1 + 1 < wr.heap.size := HX.out.lt
      have rE2 := (HE1.out.alloc _).grown hg2 (own_far_block HO1.out (by omega))
      have rX2 := (HX1.out.alloc _).grown hg2 (own_far_block HO1.out hX)
      obtain ⟨A2, c2, rfl, hA2, hn2, hfar, hs2⟩ := own_seen ho2
      rw [hrep_succ] at hs2
      have HB2 := hide ((HB1.out.alloc (Nat.le_trans hks.out HS1.out) _).grown hg2 (by simp; have := hks.out; have := HS1.out; omega) (fun j hj => by have := (HO1.out.lt j hj).1; have := hks.out; omega))
      have H2 := hide hs2
      have HE2 := hide rE2
      have HX2 := hide rX2
      have HF2 := hide hfar
      have HA2 := hide hA2
      have q0 := rX2.cell (k := 0) rfl
      have q1 := rX2.free 0
      clear ho2 hg2 rE2 rX2 hs2 hfar hA2
      go_wp2_with fail
      go_roundg (L - (k + 1))
      case rel =>
        refine ⟨k + 1, by omega, by omega, by omega, hide ⟨A2, c2, ⟨HA2.out, hn2, by omega⟩, HX2.out.set_ 0 _, HE2.out.far (p := ⟨w.heap.size + 1 + 1, 0, none⟩) (by simp; omega) _, ?_, HB2.out.setCell (by simp; omega) _⟩⟩
        have hsz : (w2.setCell ⟨w.heap.size + 1 + 1, 0, none⟩ (.slice A2 (k + 1) c2)).heap.size = w2.heap.size := by simp [World.setCell]
        rw [hsz]
        exact H2.out.keepF HF2.out fun p h1 _ => World.cell?_setCell_other _ _ _ _ (fun e => by subst e; simp at h1; omega)
      case measure => omega
    · obtain rfl : k = L := by omega
      have hT2 := hide (hT.out.keep HB.out hT.out.pos)
      have hpg := hide (ret_pg (w := wr) (B := wr.heap.size) HE.out.lt HE.out Hcap.out Hsee.out)
      have cc := check_any A k c _ _ 0 wr.heap.size wr hpg (Nat.le_refl _) hT2
      have hpe := pgE_rep k (by omega)
      have hlz : ¬ (k : Int) < 80 + n := by have := hL.out; omega
      by_cases hnp : n ≤ 0
      · rw [hpe, if_neg (by have := hL.out; omega)] at cc
        have CC := hide cc
        clear cc hpe hlt
        go_wp2_with fail
        refine (CC.out).mono ?_
        rintro e w2 ⟨rfl, hb2⟩
        have HB2 := hide (below_call HB.out hb2)
        clear hb2
        go_wp2_with fail
        go_ret
        exact ⟨rfl, HB2.out⟩
      · rw [hpe, if_pos (by have := hL.out; omega)] at cc
        have CC := hide cc
        clear cc hpe hlt
        go_wp2_with fail
        refine (CC.out).mono ?_
        rintro e w2 ⟨rfl, hb2⟩
        have HB2 := hide (below_call HB.out hb2)
        clear hb2
        go_wp2_with fail
        go_ret
        exact ⟨rfl, HB2.out⟩
end Go.Proofs.YtlfifdpklmnmpaaDoor
