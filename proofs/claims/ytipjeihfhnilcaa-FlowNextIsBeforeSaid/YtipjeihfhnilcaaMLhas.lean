import Derived.Test.YtipjeihfhnilcaaMBmath
import Derived.Test.YtipjeihfhnilcaaMBlists
import Derived.Test.YtipjeihfhnilcaaMFnlaw
import Derived.Test.YtipjeihfhnilcaaMLaw
set_option linter.unusedVariables false
set_option linter.unusedSimpArgs false
section
/-
  The contract of spillframeref04.Has: whether a number is in a list of ints. Conditions: those of the types.
-/
namespace Go.Proofs.Ytipjeihfhnilcaa
open Go.RowKit

theorem rhas_any (A : Option Addr) (n c : Nat) (zs : List Int) (x : Int) (w : World) (h : Hid (Lst w A n zs)) :
    Calls Try.prog 30 #[.slice A n c, .int .i64 x] w fun e w' => e = .returned (.bool (hasB zs x)) ∧ w = w' := by
  have hl := h.out.le
  have HB := hide (show hasB zs x = decide (x ∈ zs) from rfl)
  go_enter Try.func30, Try.ntmps30
  go_wp2_with fail
  go_loop [5] (fun i => ∃ k : Nat, k ≤ n ∧ i = .int .i64 k ∧ Hid (x ∉ zs.take k)) (fun i => n - (intOf i).toNat)
  case atStart => exact ⟨0, by omega, rfl, hide (by simp)⟩
  case round =>
    obtain ⟨k, hk, rfl, hT⟩ := hrel
    by_cases hlt : k < n
    · have l1 : k < zs.length := by have := h.out.len; omega
      obtain ⟨b1, o1, rfl, _, hc1⟩ := int_at h.out.see l1
      have N1 := hide (fun heq : zs[k] = x => (show hasB zs x = true by unfold hasB; rw [decide_eq_true_iff, ← heq]; exact List.getElem_mem l1))
      have N2 := hide (fun hne : zs[k] ≠ x => (show x ∉ zs.take (k + 1) by
        rw [take_snoc l1, List.mem_append, List.mem_singleton]
        rintro (h1 | h1)
        · exact hT.out h1
        · exact hne h1.symm))
      generalize zs[k] = y at hc1 N1 N2
      clear l1
      by_cases hxy : y = x
      · subst hxy
        have H1 := hide (N1.out rfl)
        clear N1 N2
        go_wp2_with fail
        go_ret
        exact ⟨by rw [H1.out]; rfl, rfl⟩
      · have hne : (y == x) = false := by rw [beq_eq_false_iff_ne]; exact hxy
        have H2 := hide (N2.out hxy)
        clear N1 N2 hxy
        go_wp2_with fail
        go_round
        case rel => exact ⟨k + 1, by omega, by go_num, H2⟩
        case measure => simp [intOf]; omega
    · obtain rfl : k = n := by omega
      have H1 := hide (show hasB zs x = false by
        have h1 := hT.out
        rw [List.take_of_length_le (by have := h.out.len; omega)] at h1
        exact decide_eq_false h1)
      go_wp2_with fail
      go_ret
      exact ⟨by rw [H1.out]; rfl, rfl⟩

end Go.Proofs.Ytipjeihfhnilcaa
end

section
/-
  FlowNextIsBefore's law, walked: it returns true. Conditions: those of the types.
-/
namespace Go.Proofs.Ytipjeihfhnilcaa
open Go.RowKit

/-- Whether one may follow the other, told by either list. -/
theorem has_bef (l : List Ins) {n k j : Nat} (hk : k < n) : hasB (toI (suc l k)) (j : Int) = hasB (toI (befN l n j)) (k : Int) := by
  unfold hasB
  rw [decide_eq_decide, toI_mem, toI_mem, mem_bef]
  exact ⟨fun h => ⟨hk, h⟩, fun h => h.2⟩
theorem befL_done {l : List Ins} {n j : Nat} (hj : j < n) : (befL l n n 0)[j]? = some (befN l n j) := by
  rw [befL_at hj]; simp
set_option maxRecDepth 100000 in
set_option maxHeartbeats 2000000 in
theorem isbeflaw_walk (A0 : Option Addr) (n0 c0 : Nat) (zs : List Int) (w : World)
    (hA : Hid (A0 = none → c0 = 0)) (hn : Hid (zs.length = n0)) (hnc : n0 ≤ c0) (hm : n0 ≤ 9223372036854775807) (hs : Hid (Sees w w.heap.size A0 (cellsU8 zs))) (hz : Hid (∀ z ∈ zs, 0 ≤ z ∧ z ≤ 255)) :
    Calls Try.prog 6 #[.slice A0 n0 c0] w fun e w' => e = .returned (.bool true) ∧ Below w.heap.size w w' := by
  go_enter Try.func6, Try.ntmps6
  go_wp2_with fail
  refine (awake13_any w).mono ?_
  rintro e w1 ⟨rfl, hb1⟩
  have HB1 := hide hb1
  have HS1 := hide ((hs.out.below hb1).more hb1.size)
  clear hb1
  go_wp2_with fail
  refine (function13_any A0 n0 c0 zs w1 hA hn hnc hm HS1 hz).mono ?_
  rintro e w2 ⟨P, A1, n1, c1, A2, n2, c2, l, gk, rfl, hC, hok, hn2, hb2⟩
  obtain ⟨W, hW⟩ : ∃ V, w2.alloc (.cells #[.int .i64 P, .slice A1 n1 c1, .slice A2 n2 c2] 53) = V := ⟨_, rfl⟩
  have HW := hide hW
  have hb3 : Below w2.heap.size w2 W := by rw [← hW]; exact below1 _ _
  obtain ⟨B, hB⟩ : ∃ B, w2.heap.size = B := ⟨_, rfl⟩
  have HBB := hide hB
  have RB := hide (show Row W B 53 [.int .i64 P, .slice A1 n1 c1, .slice A2 n2 c2] by rw [← hW, ← hB]; exact Row.new w2 _ _)
  have HC := hide (hC.below hb3)
  have HBW := hide (HB1.out.trans ((hb2.trans (hb3.mono hb2.size)).mono HB1.out.size))
  have hn3 := hC.few
  have NA := hide (fun (z : Int) (V : World) (hb : Below W.heap.size W V) => (fnext_any (P := P) (A1 := A1) (n1 := n1) (c1 := c1) (c2 := c2) z V (hide (HC.out.below hb)) hok).mono fun e w' q => NxPost.of hok q)
  have cb := before_any (P := P) (A1 := A1) (n1 := n1) (c1 := c1) (c2 := c2) W HC (hide hok)
  unfold ListsPost at cb
  rw [befL_len] at cb
  have CBB := hide cb
  clear hC hok hb2 hb3 hW hB HS1 HB1 hn2 cb
  go_upto_region 4 with (fail)
  rw [HW.out, HBB.out]
  clear HW HBB
  have q0 := RB.out.cell (k := 0) rfl
  have q1 := RB.out.cell (k := 1) rfl
  have q2 := RB.out.cell (k := 2) rfl
  go_wp2_with fail
  refine CBB.out.mono ?_
  rintro e w5 ⟨gb, vb, rfl, hl5, hb5⟩
  have HL5 := hide hl5
  have HB5 := hide hb5
  have R5 := hide (RB.out.call hb5)
  clear q0 q1 q2 hl5 hb5 CBB
  have q2 := R5.out.cell (k := 2) rfl
  go_wp2_with fail
  clear q2
  go_loopw [6] (fun s wr => ∃ i : Nat, i ≤ n2 ∧ s = .int .i64 (i : Int) ∧ Hid (Below w5.heap.size w5 wr)) (fun s _ => n2 - (intOf s).toNat)
  case atStart => exact ⟨0, by omega, rfl, hide (Below.refl _ _)⟩
  case round =>
    obtain ⟨i, hi, rfl, hbr⟩ := hrel
    have R2 := hide (R5.out.call hbr.out)
    have q0 := R2.out.cell (k := 0) rfl
    have q1 := R2.out.cell (k := 1) rfl
    have q2 := R2.out.cell (k := 2) rfl
    by_cases hlt : i < n2
    · have cn := NA.out (i : Int) wr (below_call HB5.out hbr.out)
      rw [sucZ_nat] at cn
      have HH := hide (fun j => has_bef l (n := n2) (k := i) (j := j) hlt)
      obtain ⟨xs, hxs⟩ : ∃ xs, toI (suc l i) = xs := ⟨_, rfl⟩
      rw [hxs] at cn HH
      clear hxs
      unfold NxPost at cn
      go_wp2_with fail
      refine cn.mono ?_
      rintro e w6 ⟨A6, c6, rfl, hl6, hb6⟩
      have HL6 := hide hl6
      have R6 := hide (R2.out.call hb6)
      have HB6 := hide (below_call hbr.out hb6)
      clear cn q0 q1 q2 hl6 hb6 R2 hbr
      go_wp2_with fail
      go_loopw [8] (fun s wq => ∃ j : Nat, j ≤ n2 ∧ s = .int .i64 (j : Int) ∧ Hid (Below w6.heap.size w6 wq)) (fun s _ => n2 - (intOf s).toNat)
      case atStart => exact ⟨0, by omega, rfl, hide (Below.refl _ _)⟩
      case round =>
        obtain ⟨j, hj, rfl, hbq⟩ := hrel
        have R7 := hide (R6.out.call hbq.out)
        have q2 := R7.out.cell (k := 2) rfl
        by_cases hlt2 : j < n2
        · have HL7 := hide (HL6.out.below hbq.out)
          obtain ⟨Aj, cj, -, z0, hoj⟩ := (HL5.out.below (below_call HB6.out hbq.out)).at2 (befL_done hlt2)
          have HLj := hide (show Lst wr Aj (befN l n2 j).length (toI (befN l n2 j)) from ⟨toI_len _, by have := befN_len l n2 j; omega, Sees.ownN hoj, fun y hy => by
            obtain ⟨m, hm, rfl⟩ := List.mem_map.1 hy
            have := (mem_bef.1 hm).1
            omega⟩)
          have hh := HH.out j
          obtain ⟨ys, hys⟩ : ∃ ys, toI (befN l n2 j) = ys := ⟨_, rfl⟩
          generalize (befN l n2 j).length = m at z0 HLj
          rw [hys] at HLj hh
          obtain ⟨b, hbb⟩ : ∃ b, hasB xs (j : Int) = b := ⟨_, rfl⟩
          rw [hbb] at hh
          have z1 : ∀ p : After wr, p.w.cell? ⟨gb, j, none⟩ = some (.slice Aj m cj) := fun p => after_cell z0 p
          have cA : ∀ p : After wr, Calls Try.prog 30 #[.slice A6 xs.length c6, .int .i64 (j : Int)] p.w (fun e w' => e = .returned (.bool b) ∧ Below p.w.heap.size p.w w') := fun p => (rhas_any A6 xs.length c6 xs (j : Int) p.w (hide (HL7.out.below p.b))).mono fun e w' q => by
            obtain ⟨he, rfl⟩ := q
            rw [hbb] at he
            exact ⟨he, Below.refl _ _⟩
          have cB : ∀ p : After wr, Calls Try.prog 30 #[.slice Aj m cj, .int .i64 (i : Int)] p.w (fun e w' => e = .returned (.bool b) ∧ Below p.w.heap.size p.w w') := fun p => (rhas_any Aj m cj ys (i : Int) p.w (hide (HLj.out.below p.b))).mono fun e w' q => by
            obtain ⟨he, rfl⟩ := q
            rw [← hh] at he
            exact ⟨he, Below.refl _ _⟩
          have C1 := hide cA
          have C2 := hide cB
          have hj0 : (0 : Int) ≤ (j : Int) := by omega
          have hjn : (j : Int) < (n2 : Int) := by omega
          have hbne : (b != b) = false := by simp
          clear cA cB z0 hoj hh hys hbb
          go_upto_region 14 with (fail)
          refine wp_region_after (by kernel_rfl) (by kernel_rfl) ?_
          repeat (go_big_quiet_step (first | (go_at_call 30; with_reducible exact after_of (C1.out _)) | (go_at_call 30; with_reducible exact after_of (C2.out _))))
          refine wpQuiet_nil ?_
          intro _ hw'
          obtain ⟨p1, hw''⟩ := hw'
          subst hw''
          have HB := hide (below_call hbq.out p1.b)
          clear z1 C1 C2
          go_wp2_with fail
          go_roundw
          case rel => exact ⟨j + 1, by omega, by go_num, HB⟩
          case measure => simp [intOf]; omega
        · obtain rfl : j = n2 := by omega
          have HB := hide (below_call HB6.out hbq.out)
          go_wp2_with fail
          go_roundw
          case rel => exact ⟨i + 1, by omega, by go_num, HB⟩
          case measure => simp [intOf]; omega
    · obtain rfl : i = n2 := by omega
      have HF := hide (HBW.out.trans ((below_call HB5.out hbr.out).mono HBW.out.size))
      go_wp2_with fail
      go_ret
      exact ⟨rfl, HF.out⟩
end Go.Proofs.Ytipjeihfhnilcaa
end

section
/-
  FlowNextIsBefore: for every input the law returns true, and each argument reads behind the call as it did before. No condition: every input that the row speaks of.
-/
namespace Go.Proofs.Ytipjeihfhnilcaa
open Go.ChangeShapes Go.WideShapes Go.ChangeAt Go.RowKit

namespace rowFlowNextIsBefore
theorem own_knob : ownKnob Try.prog.godebug = none := by kernel_rfl
theorem laid_out : laidOutB Try.prog = true := by kernel_rfl
theorem cells_u8 : Try.prog.cellsOf 5 = 1 := by kernel_rfl
set_option maxRecDepth 100000 in
theorem contract (H : Type) (enc : TypeId × Value → H) (W : World) (base : Nat) (args : Array Value) (ds gs : List (DataW H)) (before : List MemPlace)
    (hval : ∀ (j : Nat) t v, Try.f6.params[j]? = some t → args[j]? = some v → Value.okWide Try.prog W .any base t v)
    (hW : DataW.Whole enc Try.prog Try.f6.params.toList Rows.flowNextIsBeforeSpec.vars false W args.toList ds gs before) :
    Calls Try.prog 6 args W fun e W' => ∃ v, e = .returned v ∧ Rows.flowNextIsBeforeSpec.post enc Try.prog Try.f6 false true false false W args v W' := by
  have hW' := hW
  obtain ⟨p, q, hA, hV, rfl, hfz, hnd⟩ := hW
  have hA : DataW.TrodAll enc Try.prog W 0 (fun _ => true) true Try.f6.params.toList args.toList ds p := hA
  rw [Try.params6] at hA hval
  obtain ⟨v0, vs0, d0, ds0, p0, q0, hargs, rfl, rfl, h0, r0⟩ := trodAll_cons hA
  obtain ⟨rfl, rfl, rfl⟩ := trodAll_nil r0
  obtain rfl : args = #[v0] := by cases args; simp_all
  obtain ⟨A0, n0, c0, zs0, rfl, hA0, hn0, hm0, hs0, hz0, hc0⟩ := open_u8s Try.underlying22 Try.underlying5 cells_u8 (hval 0 22 v0 rfl rfl) h0
  refine (isbeflaw_walk A0 n0 c0 zs0 W (hide hA0) (hide hn0) hc0 hm0 (hide hs0) (hide hz0)).mono fun e W' ⟨he, hB⟩ => ⟨_, he, ?_⟩
  exact law_post laid_out (by decide +kernel) rfl rfl Try.underlying4 rfl hW' hB

set_option maxRecDepth 100000 in
theorem lifted (os : Os) (started : os.Started) (H : Type) (enc : TypeId × Value → H) :
    ReturnsInHanded {} Try.checked os 6 .any (Rows.flowNextIsBeforeSpec.pre6 enc Try.prog Try.f6 Rows.flowNextIsBeforeRow.domain false) (Rows.flowNextIsBeforeSpec.post enc Try.prog Try.f6 false true false false) := by
  refine returnsInHanded_of_change (C := Try.checked) own_knob started (by kernel_rfl) Try.func6
    (ChangeSpec.witness6 (enc := enc) (C := Try.checked) false ⟨#[], #[.slice none 0 0], []⟩ 8 (by kernel_rfl) (by kernel_rfl) (by kernel_rfl) (by kernel_rfl)) ?_
  intro W base args ds gs before hval hW _ _
  exact contract H enc W base args ds gs before hval hW

theorem proved : Rows.FlowNextIsBeforeSaid :=
  OpenClaim.holds_of_wide 6 Try.f6 rfl rfl rfl rfl rfl rfl rfl ⟨rfl, rfl, rfl, rfl, rfl⟩ rfl rfl rfl rfl rfl (by kernel_rfl) Try.func6 (by kernel_rfl)
    (of_decide_eq_true (by kernel_rfl)) (by unfold Func.isWrapper; first | (rw [if_pos (by decide +kernel)]; kernel_rfl) | (rw [if_neg (by decide +kernel)]; exact ⟨rfl, rfl⟩))
    (fun os started H enc _ => lifted os started H enc)
end rowFlowNextIsBefore
end Go.Proofs.Ytipjeihfhnilcaa
end
