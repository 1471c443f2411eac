import Derived.Test.YtipjeihfhnilcabMFfun
import Derived.Test.YtipjeihfhnilcabMFrb
import Derived.Test.YtipjeihfhnilcabMLsam
import Derived.Test.YtipjeihfhnilcabMMneq
set_option linter.unusedVariables false
set_option linter.unusedSimpArgs false
section
/-
  FlowBlocks' law, walked: it returns true. Conditions: those of the types.
-/
namespace Go.Proofs.Ytipjeihfhnilcab
open Go.RowKit

theorem blk_from (L : Nat → Bool) (h0 : L 0 = true) : ∀ k : Nat, ∃ f, f ≤ k ∧ L f = true ∧ ∀ j, f < j → j ≤ k → L j = false
  | 0 => ⟨0, Nat.le_refl _, h0, fun j h1 h2 => by omega⟩
  | k + 1 => by
    cases h : L (k + 1) with
    | true => exact ⟨k + 1, Nat.le_refl _, h, fun j h1 h2 => by omega⟩
    | false =>
      obtain ⟨f, h1, h2, h3⟩ := blk_from L h0 k
      exact ⟨f, by omega, h2, fun j h4 h5 => by
        by_cases e : j = k + 1
        · rw [e]; exact h
        · exact h3 j h4 (by omega)⟩
theorem blk_to (L : Nat → Bool) (n : Nat) : ∀ d k : Nat, n - (k + 1) = d → k < n → ∃ t, k < t ∧ t ≤ n ∧ (t = n ∨ L t = true) ∧ ∀ j, k < j → j < t → L j = false
  | 0, k, h, hk => ⟨n, hk, Nat.le_refl _, .inl rfl, fun j h1 h2 => by omega⟩
  | d + 1, k, h, hk => by
    cases hL : L (k + 1) with
    | true => exact ⟨k + 1, by omega, by omega, .inr hL, fun j h1 h2 => by omega⟩
    | false =>
      obtain ⟨t, h1, h2, h3, h4⟩ := blk_to L n d (k + 1) (by omega) (by omega)
      exact ⟨t, by omega, h2, h3, fun j h5 h6 => by
        by_cases e : j = k + 1
        · rw [e]; exact hL
        · exact h4 j (by omega) h6⟩
theorem blk_ex (l : List Ins) {n k : Nat} (hk : k < n) : ∃ f t, IsBlk (ldr l) n k f t := by
  obtain ⟨f, f1, f2, f3⟩ := blk_from (ldr l) (ldr_zero l) k
  obtain ⟨t, t1, t2, t3, t4⟩ := blk_to (ldr l) n _ k rfl hk
  exact ⟨f, t, f1, t1, t2, f2, t3, fun j h1 h2 => by
    by_cases e : j ≤ k
    · exact f3 j h1 e
    · exact t4 j (by omega) h2⟩
theorem BlkPost.one {l : List Ins} {n k f t : Nat} {w w' : World} {e : Ending} (h : BlkPost l n k w e w') (hb : IsBlk (ldr l) n k f t) : e = .returned (pv (f : Int) ((t : Int) - (f : Int))) ∧ Below w.heap.size w w' := by
  obtain ⟨f', t', he, hi, hB⟩ := h
  obtain ⟨rfl, rfl⟩ := hi.one hb
  exact ⟨he, hB⟩
section
variable {P : Int} {A1 : Option Addr} {n1 c1 : Nat} {A2 : Option Addr} {n2 c2 : Nat} {l : List Ins}
/-- Both Block functions give the same interval. -/
theorem blocks_at (z : Int) : ∃ u v : Int, ∀ W : World, CdAt W A2 n2 l → Calls Try.prog 10 #[fv P A1 n1 c1 A2 n2 c2, .int .i64 z] W (fun e w' => e = .returned (pv u v) ∧ Below W.heap.size W w') ∧ Calls Try.prog 11 #[fv P A1 n1 c1 A2 n2 c2, .int .i64 z] W (fun e w' => e = .returned (pv u v) ∧ Below W.heap.size W w') := by
  by_cases hz : withB z n2 = true
  · obtain ⟨h0, h1⟩ := withB_true.1 hz
    obtain ⟨k, rfl⟩ : ∃ k : Nat, z = (k : Int) := ⟨z.toNat, by omega⟩
    obtain ⟨f, t, hb⟩ := blk_ex l (n := n2) (k := k) (by omega)
    exact ⟨_, _, fun W hC => ⟨(block_any k W (hide hC) (by omega)).mono fun e w' h => h.one hb, (rblock_any k W (hide hC) (by omega)).mono fun e w' h => h.one hb⟩⟩
  · simp only [Bool.not_eq_true] at hz
    exact ⟨0, 0, fun W hC => ⟨block_out z W hz, rblock_out z W hz⟩⟩
end
theorem LstJ {w w' : World} {A : Option Addr} {c n : Nat} {L : Nat → Bool} (hn : n ≤ 1024) (h : w'.ownsRow w.heap.size 3 1 (.slice A (toI (leadsL L n)).length c) (toI (leadsL L n)).length (cellsI (toI (leadsL L n)))) : Lst w' A (toI (leadsL L n)).length (toI (leadsL L n)) := by
  refine ⟨rfl, by rw [toI_len]; have := leadsL_len L n; omega, Sees.ownN h, fun z hz => ?_⟩
  obtain ⟨y, hy, rfl⟩ := List.mem_map.1 hz
  have := (leadsL_mem.1 hy).1
  omega
set_option maxRecDepth 100000 in
set_option maxHeartbeats 2000000 in
theorem blockslaw_walk (A0 : Option Addr) (n0 c0 : Nat) (zs : List Int) (k : Int) (w : World)
    (hA : Hid (A0 = none → c0 = 0)) (hn : Hid (zs.length = n0)) (hnc : n0 ≤ c0) (hm : n0 ≤ 9223372036854775807) (hs : Hid (Sees w w.heap.size A0 (cellsU8 zs))) (hz : Hid (∀ z ∈ zs, 0 ≤ z ∧ z ≤ 255)) :
    Calls Try.prog 4 #[.slice A0 n0 c0, .int .i64 k] w fun e w' => e = .returned (.bool true) ∧ Below w.heap.size w w' := by
  go_enter Try.func4, Try.ntmps4
  go_wp2_with fail
  refine (awake13_any w).mono ?_
  rintro e w1 ⟨rfl, hb1⟩
  have HB1 := hide hb1
  have HS1 := hide ((hs.out.below hb1).more hb1.size)
  clear hb1
  go_wp2_with fail
  refine (function13_any A0 n0 c0 zs w1 hA hn hnc hm HS1 hz).mono ?_
  rintro e w2 ⟨P, A1, n1, c1, A2, n2, c2, l, gk, rfl, hC, hok, hn2, hb2⟩
  obtain ⟨W, hW⟩ : ∃ V, w2.alloc (.cells #[.int .i64 P, .slice A1 n1 c1, .slice A2 n2 c2] 27) = V := ⟨_, rfl⟩
  have HW := hide hW
  have hb3 : Below w2.heap.size w2 W := by rw [← hW]; exact below1 _ _
  obtain ⟨B, hB⟩ : ∃ B, w2.heap.size = B := ⟨_, rfl⟩
  have HBB := hide hB
  have RB := hide (show Row W B 27 [.int .i64 P, .slice A1 n1 c1, .slice A2 n2 c2] by rw [← hW, ← hB]; exact Row.new w2 _ _)
  have HC := hide (hC.below hb3)
  have HBW := hide (HB1.out.trans ((hb2.trans (hb3.mono hb2.size)).mono HB1.out.size))
  have hn3 := hC.few
  have BK := hide (fun z => blocks_at (P := P) (A1 := A1) (n1 := n1) (c1 := c1) (A2 := A2) (n2 := n2) (c2 := c2) (l := l) z)
  have LA := hide (fun (V : World) (hb : Below W.heap.size W V) => leaders_any (P := P) (A1 := A1) (n1 := n1) (c1 := c1) (c2 := c2) V (hide (HC.out.below hb)))
  have LB := hide (fun (V : World) (hb : Below W.heap.size W V) => rleaders_any (P := P) (A1 := A1) (n1 := n1) (c1 := c1) (c2 := c2) V (hide (HC.out.below hb)))
  clear hC hok hb2 hb3 hW hB HS1 HB1 hn2
  go_upto_region 4 with (fail)
  rw [HW.out, HBB.out]
  clear HW HBB
  go_upto_region 5 with (fail)
  go_loopw [7] (fun s wr => ∃ i : Nat, i ≤ n2 ∧ s = .int .i64 (i : Int) ∧ Hid (Below W.heap.size W wr)) (fun s _ => n2 - (intOf s).toNat)
  case atStart => exact ⟨0, by omega, rfl, hide (Below.refl _ _)⟩
  case round =>
    obtain ⟨i, hi, rfl, hbr⟩ := hrel
    have R2 := hide (RB.out.call hbr.out)
    by_cases hlt : i < n2
    · obtain ⟨u, v, huv⟩ := BK.out (i : Int)
      have cA : ∀ p : After wr, Calls Try.prog 10 #[fv P A1 n1 c1 A2 n2 c2, .int .i64 (i : Int)] p.w (fun e w' => e = .returned (pv u v) ∧ Below p.w.heap.size p.w w') := fun p => (huv p.w (HC.out.below (below_call hbr.out p.b))).1
      have cB : ∀ p : After wr, Calls Try.prog 11 #[fv P A1 n1 c1 A2 n2 c2, .int .i64 (i : Int)] p.w (fun e w' => e = .returned (pv u v) ∧ Below p.w.heap.size p.w w') := fun p => (huv p.w (HC.out.below (below_call hbr.out p.b))).2
      have C1 := hide cA
      have C2 := hide cB
      have hne : ∀ w, (binOp .neq 35 (pv u v) (pv u v)).run Try.prog w = .ok (.bool false) w := fun w => by rw [run_ne_interval]; simp
      clear huv cA cB
      have q2' := R2.out.cell (k := 2) rfl
      go_upto_region 7 with (fail)
      have q0 : ∀ p : After wr, p.w.cell? ⟨B, 0, none⟩ = some (.int .i64 P) := fun p => after_cell (R2.out.cell (k := 0) rfl) p
      have q1 : ∀ p : After wr, p.w.cell? ⟨B, 1, none⟩ = some (.slice A1 n1 c1) := fun p => after_cell (R2.out.cell (k := 1) rfl) p
      have q2 : ∀ p : After wr, p.w.cell? ⟨B, 2, none⟩ = some (.slice A2 n2 c2) := fun p => after_cell (R2.out.cell (k := 2) rfl) p
      refine wp_region_after (by kernel_rfl) (by kernel_rfl) ?_
      repeat (go_big_quiet_step (first | (go_at_call 10; with_reducible exact after_of (C1.out _)) | (go_at_call 11; with_reducible exact after_of (C2.out _))))
      refine wpQuiet_nil ?_
      intro _ hw'
      obtain ⟨p1, hw''⟩ := hw'
      subst hw''
      have HB := hide (below_call hbr.out p1.b)
      clear q0 q1 q2 C1 C2 q2'
      go_wp2_with fail
      go_roundw
      case rel => exact ⟨i + 1, by omega, by go_num, HB⟩
      case measure => simp [intOf]; omega
    · obtain rfl : i = n2 := by omega
      obtain ⟨u, v, huv⟩ := BK.out k
      have C1 := hide (fun (V : World) (hb : Below wr.heap.size wr V) => (huv V (HC.out.below (below_call hbr.out hb))).1)
      have C2 := hide (fun (V : World) (hb : Below wr.heap.size wr V) => (huv V (HC.out.below (below_call hbr.out hb))).2)
      have LA2 := hide (fun (V : World) (hb : Below wr.heap.size wr V) => LA.out V (below_call hbr.out hb))
      have LB2 := hide (fun (V : World) (hb : Below wr.heap.size wr V) => LB.out V (below_call hbr.out hb))
      have heq : ∀ w, (binOp .eql 35 (pv u v) (pv u v)).run Try.prog w = .ok (.bool true) w := fun w => by rw [run_eql_struct, equalIn_interval]; simp
      obtain ⟨xs, hxs⟩ : ∃ xs, toI (leadsL (ldr l) i) = xs := ⟨_, rfl⟩
      have LJ := hide (fun (w w' : World) (A : Option Addr) (c : Nat) (h : w'.ownsRow w.heap.size 3 1 (.slice A (toI (leadsL (ldr l) i)).length c) (toI (leadsL (ldr l) i)).length (cellsI (toI (leadsL (ldr l) i)))) => LstJ (w := w) (w' := w') (A := A) (c := c) (n := i) (L := ldr l) hn3 h)
      rw [hxs] at LA2 LB2 LJ
      have CS := hide (fun (A : Option Addr) (c : Nat) (A' : Option Addr) (c' : Nat) (V : World) (h : Hid (Lst V A xs.length xs)) (h' : Hid (Lst V A' xs.length xs)) => (show Calls Try.prog 12 #[.slice A xs.length c, .slice A' xs.length c'] V (BoolPost true V) by have h3 := lsame_any A xs.length c xs A' xs.length c' xs V h h'; rwa [show decide (xs = xs) = true from decide_eq_true rfl] at h3))
      have q2' := R2.out.cell (k := 2) rfl
      clear huv hxs
      go_upto_region 9 with (fail)
      have q0 := fun (w' : World) (hb : Below wr.heap.size wr w') => (R2.out.call hb).cell (k := 0) rfl
      have q1 := fun (w' : World) (hb : Below wr.heap.size wr w') => (R2.out.call hb).cell (k := 1) rfl
      have q2 := fun (w' : World) (hb : Below wr.heap.size wr w') => (R2.out.call hb).cell (k := 2) rfl
      go_region_held3 (fun w' => Below wr.heap.size wr w') (first | exact bb | exact below_draws (Below.refl _ _) 1 | exact below_draws bb _)
        (first
          | (go_at_call 13; with_reducible refine Calls.mono (LA2.out _ (by first | exact bb | exact bb.drew | exact (Below.refl _ _).drew)) ?_; intro e w5 h5; unfold OutPost at h5; obtain ⟨Aa, ca, rfl, hoa, hb5⟩ := h5; have HLa := hide (LJ.out _ _ _ _ hoa); have bb := below_call (show Below wr.heap.size wr _ from by first | exact bb | exact bb.drew | exact (Below.refl _ _).drew) hb5; clear hoa)
          | (go_at_call 14; with_reducible refine Calls.mono (LB2.out _ (by first | exact bb | exact bb.drew | exact (Below.refl _ _).drew)) ?_; intro e w6 h6; unfold OutPost at h6; obtain ⟨Ab, cb, rfl, hob, hb6⟩ := h6; have HLb := hide (LJ.out _ _ _ _ hob); have HLa := hide (HLa.out.below hb6); have bb := below_call bb hb6; clear hob)
          | (go_at_call 12; with_reducible refine Calls.mono (CS.out _ _ _ _ _ HLa HLb) ?_; intro e w7 h7; unfold BoolPost at h7; obtain ⟨rfl, q, rfl⟩ := h7; have bb := below_draws bb q)
          | (go_at_call 10; with_reducible refine Calls.mono (C1.out _ bb) ?_; rintro e w8 ⟨rfl, hb8⟩; have bb := below_call bb hb8)
          | (go_at_call 11; with_reducible refine Calls.mono (C2.out _ bb) ?_; rintro e w9 ⟨rfl, hb9⟩; have bb := below_call bb hb9))
      all_goals
        have HF := hide (HBW.out.trans ((below_call hbr.out bb).mono HBW.out.size))
        clear bb q0 q1 q2 q2' C1 C2 LA2 LB2 CS LJ
        go_wp2_with fail
        go_ret
        exact ⟨rfl, HF.out⟩
end Go.Proofs.Ytipjeihfhnilcab
end
