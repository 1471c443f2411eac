import Derived.Test.YtidlnecgfgnllaaDoorMBtrem
import Derived.Test.YtidlnecgfgnllaaDoorMLce1
import Derived.Maps.AppendAt
set_option linter.unusedVariables false
set_option linter.unusedSimpArgs false
section
/-
  The contracts of the reference's Has and Add on lists of ints. Condition: at most 2^40 ints.
-/
namespace Go.Proofs.YtidlnecgfgnllaaDoor
open Go.RowKit

/-- What the loop of Add keeps: the list so far, whether x stands in it (or can't). -/
def AddSt (x : Int) (zs : List Int) (k : Nat) (l : List Int) (d : Bool) : Prop :=
  (d = true → l = addL (zs.take k) x ∧ (goodB x = false ∨ ∃ y ∈ zs.take k, x ≤ y)) ∧ (d = false → l = zs.take k ∧ goodB x = true ∧ ∀ y ∈ zs.take k, y < x)
section
variable {x y : Int} {zs l : List Int} {k : Nat}
theorem AddSt.start (x : Int) (zs : List Int) : AddSt x zs 0 [] (!goodB x) := by
  cases h : goodB x with
  | false => exact ⟨fun _ => ⟨by simp [addL, h], .inl h⟩, fun e => (by cases e)⟩
  | true => exact ⟨fun e => (by cases e), fun _ => ⟨rfl, h, fun y hy => by simp at hy⟩⟩
theorem AddSt.after (h : AddSt x zs k l true) (hk : zs.take (k + 1) = zs.take k ++ [y]) : AddSt x zs (k + 1) (l ++ [y]) true := by
  obtain ⟨rfl, h2⟩ := h.1 rfl
  refine ⟨fun _ => ⟨?_, ?_⟩, fun e => by cases e⟩
  · rw [hk]
    unfold addL
    cases hg : goodB x with
    | false => simp
    | true =>
      rcases h2 with h2 | h2
      · rw [hg] at h2; cases h2
      · simp only [if_true]
        rw [ins_found h2]
  · rcases h2 with h2 | ⟨z, hz, h3⟩
    · exact .inl h2
    · exact .inr ⟨z, by rw [hk]; exact List.mem_append_left _ hz, h3⟩
theorem AddSt.less (h : AddSt x zs k l false) (hk : zs.take (k + 1) = zs.take k ++ [y]) (hy : y < x) : AddSt x zs (k + 1) (l ++ [y]) false := by
  obtain ⟨rfl, h2, h3⟩ := h.2 rfl
  refine ⟨fun e => (by cases e), fun _ => ⟨hk.symm, h2, fun z hz => ?_⟩⟩
  rw [hk, List.mem_append, List.mem_singleton] at hz
  rcases hz with hz | rfl
  · exact h3 z hz
  · exact hy
theorem AddSt.same (h : AddSt x zs k l false) (hk : zs.take (k + 1) = zs.take k ++ [x]) : AddSt x zs (k + 1) (l ++ [x]) true := by
  obtain ⟨rfl, h2, h3⟩ := h.2 rfl
  refine ⟨fun _ => ⟨?_, .inr ⟨x, by rw [hk]; simp, Int.le_refl _⟩⟩, fun e => by cases e⟩
  rw [hk, addL, if_pos h2, ins_here h3 (Int.le_refl _), if_neg (by omega)]
theorem AddSt.more (h : AddSt x zs k l false) (hk : zs.take (k + 1) = zs.take k ++ [y]) (hy : x < y) : AddSt x zs (k + 1) (l ++ [x] ++ [y]) true := by
  obtain ⟨rfl, h2, h3⟩ := h.2 rfl
  refine ⟨fun _ => ⟨?_, .inr ⟨y, by rw [hk]; simp, by omega⟩⟩, fun e => by cases e⟩
  rw [hk, addL, if_pos h2, ins_here h3 (by omega), if_pos hy]
  simp
theorem AddSt.done (h : AddSt x zs k l true) (hk : zs.take k = zs) : l = addL zs x := by
  rw [(h.1 rfl).1, hk]
theorem AddSt.last (h : AddSt x zs k l false) (hk : zs.take k = zs) : l ++ [x] = addL zs x := by
  obtain ⟨rfl, h2, h3⟩ := h.2 rfl
  rw [hk] at h3 ⊢
  rw [addL, if_pos h2, ins_less h3]
end
def AddRel (w : World) (x : Int) (zs : List Int) (n : Nat) (v d i : Value) (wr : World) : Prop :=
  ∃ (k : Nat) (l : List Int) (b : Bool), k ≤ n ∧ i = .int .i64 k ∧ d = .bool b ∧ l.length ≤ k + 1 ∧ AddSt x zs k l b ∧ IntRel w l v wr
theorem IntRel.draw {w wr : World} {l : List Int} {v : Value} (h : IntRel w l v wr) (k : Nat) : IntRel w l v (wr.drewN k) := ⟨h.1, below_draws h.2 k⟩

set_option maxHeartbeats 2000000 in
theorem radd_any (A : Option Addr) (n c : Nat) (zs : List Int) (x : Int) (w : World) (h : Hid (Lst w A n zs)) (hm : n ≤ 1099511627776) :
    Calls Tryd.prog 17 #[.slice A n c, .int .i64 x] w (OutPost (addL zs x) w) := by
  obtain ⟨i0, hi, hz0, hz1, hz2⟩ := info_parts infoI
  have hg := good_any x w
  have HS := hide (AddSt.start x zs)
  generalize goodB x = G at hg HS
  go_enter Tryd.func17, Tryd.ntmps17
  go_wp2_with fail
  refine hg.mono ?_
  rintro e w' ⟨rfl, rfl⟩
  clear hg
  go_wp2_with fail
  go_loopw [5, 6, 7] (fun v d i wr => Hid (AddRel w x zs n v d i wr)) (fun _ _ i _ => n - (intOf i).toNat)
  case atStart => exact hide ⟨0, [], !G, by omega, rfl, rfl, by simp, HS.out, IntRel.start w w (Below.refl _ _)⟩
  case round =>
    obtain ⟨k, l, b, hk, rfl, rfl, hll, hst, hL⟩ := hrel.out
    have HSt := hide hst
    have HL := hide hL
    have hs : wr.heap.size ≥ w.heap.size := hL.2.size
    clear hrel hst hL HS
    by_cases hlt : k < n
    · have l1 : k < zs.length := by have := h.out.len; omega
      obtain ⟨b1, o1, rfl, _, hc0⟩ := int_at h.out.see l1
      have hc1 := keep_cellB HL.out.2 hc0
      have HC0 := hide hc0
      have HK := hide (take_snoc l1)
      generalize zs[k] = y at hc0 hc1 HC0 HK
      have ho := HL.out.1
      clear l1 hc0
      cases b with
      | true =>
        have HN := hide (HSt.out.after HK.out)
        go_wp2_with (at_builtin; refine wpList_append_own _ rfl (.tmp 37) (.tmp 42) 42 rfl w.heap.size 3 i0 (.int .i64 0) 1 8 Tryd.underlying42 hi hz0 hz1 hz2 rfl (by decide) _ (l).length (cellsI (l)) rfl (ho.alloc _) ⟨wr.heap.size, 0, none⟩ 1 1 [.int .i64 y] rfl rfl (one_new _ _ _) (one_cell _) (by unfold maxLen; omega) (by omega) (by simp; omega) ?_)
        intro v' w4 ho4 hg4 _
        have R : Hid (AddRel w x zs n v' (.bool true) (.int .i64 ((k : Int) + 1)) w4) := hide ⟨k + 1, l ++ [y], true, by omega, by go_num, rfl, by simp; omega, HN.out, IntRel.step HL ho4 hg4⟩
        clear ho4 hg4 ho hc1
        go_wp2_with fail
        go_roundw
        case rel => exact R
        case measure => simp [intOf]; omega
      | false =>
        by_cases hxy : x ≤ y
        · by_cases hlt2 : x < y
          · have HN := hide (HSt.out.more HK.out hlt2)
            have hlk : l.length ≤ k := by rw [(HSt.out.2 rfl).1]; exact List.length_take_le _ _
            go_wp2_with (at_builtin; refine wpList_append_own _ rfl (.tmp 33) (.tmp 35) 42 rfl w.heap.size 3 i0 (.int .i64 0) 1 8 Tryd.underlying42 hi hz0 hz1 hz2 rfl (by decide) _ (l).length (cellsI (l)) rfl (ho.alloc _) ⟨wr.heap.size, 0, none⟩ 1 1 [.int .i64 x] rfl rfl (one_new _ _ _) (one_cell _) (by unfold maxLen; omega) (by omega) (by simp; omega) ?_)
            intro v' w4 ho4 hg4 _
            have HL4 := hide (IntRel.step HL ho4 hg4)
            have hc4 := keep_cellB HL4.out.2 HC0.out
            have hs4 : w4.heap.size ≥ w.heap.size := HL4.out.2.size
            have hll2 : (l ++ [x]).length ≤ k + 2 := by simp; omega
            clear ho4 hg4 ho hc1
            have ho := HL4.out.1
            go_wp2_with (at_builtin; refine wpList_append_own _ rfl (.tmp 37) (.tmp 42) 42 rfl w.heap.size 3 i0 (.int .i64 0) 1 8 Tryd.underlying42 hi hz0 hz1 hz2 rfl (by decide) _ (l ++ [x]).length (cellsI (l ++ [x])) rfl (ho.alloc _) ⟨w4.heap.size, 0, none⟩ 1 1 [.int .i64 y] rfl rfl (one_new _ _ _) (one_cell _) (by unfold maxLen; omega) (by omega) (by simp; omega) ?_)
            intro v2 w5 ho5 hg5 _
            have ho5' : w5.ownsRow w.heap.size 3 1 v2 ((l ++ [x]).length + 1) (cellsI (l ++ [x]) ++ [Value.int IntKind.i64 y]) := by rw [List.length_append]; exact ho5
            have R : Hid (AddRel w x zs n v2 (.bool true) (.int .i64 ((k : Int) + 1)) w5) := hide ⟨k + 1, l ++ [x] ++ [y], true, by omega, by go_num, rfl, by simp; omega, HN.out, IntRel.step HL4 ho5' hg5⟩
            clear ho5 ho5' hg5 ho hc4
            go_wp2_with fail
            go_roundw
            case rel => exact R
            case measure => simp [intOf]; omega
          · obtain rfl : y = x := by omega
            have HN := hide (HSt.out.same HK.out)
            go_wp2_with (at_builtin; refine wpList_append_own _ rfl (.tmp 37) (.tmp 42) 42 rfl w.heap.size 3 i0 (.int .i64 0) 1 8 Tryd.underlying42 hi hz0 hz1 hz2 rfl (by decide) _ (l).length (cellsI (l)) rfl (ho.alloc _) ⟨wr.heap.size, 0, none⟩ 1 1 [.int .i64 y] rfl rfl (one_new _ _ _) (one_cell _) (by unfold maxLen; omega) (by omega) (by simp; omega) ?_)
            intro v' w4 ho4 hg4 _
            have R : Hid (AddRel w y zs n v' (.bool true) (.int .i64 ((k : Int) + 1)) w4) := hide ⟨k + 1, l ++ [y], true, by omega, by go_num, rfl, by simp; omega, HN.out, IntRel.step HL ho4 hg4⟩
            clear ho4 hg4 ho hc1
            go_wp2_with fail
            go_roundw
            case rel => exact R
            case measure => simp [intOf]; omega
        · have HN := hide (HSt.out.less HK.out (by omega))
          go_wp2_with (at_builtin; refine wpList_append_own _ rfl (.tmp 37) (.tmp 42) 42 rfl w.heap.size 3 i0 (.int .i64 0) 1 8 Tryd.underlying42 hi hz0 hz1 hz2 rfl (by decide) _ (l).length (cellsI (l)) rfl (ho.alloc _) ⟨wr.heap.size, 0, none⟩ 1 1 [.int .i64 y] rfl rfl (one_new _ _ _) (one_cell _) (by unfold maxLen; omega) (by omega) (by simp; omega) ?_)
          intro v' w4 ho4 hg4 _
          have R : Hid (AddRel w x zs n v' (.bool false) (.int .i64 ((k : Int) + 1)) w4) := hide ⟨k + 1, l ++ [y], false, by omega, by go_num, rfl, by simp; omega, HN.out, IntRel.step HL ho4 hg4⟩
          clear ho4 hg4 ho hc1
          go_wp2_with fail
          go_roundw
          case rel => exact R
          case measure => simp [intOf]; omega
    · obtain rfl : k = n := by omega
      have HK := hide (show zs.take k = zs from List.take_of_length_le (by have := h.out.len; omega))
      cases b with
      | true =>
        have HF := hide (HSt.out.done HK.out)
        obtain ⟨A2, c2, rfl, hA, hP⟩ := HL.out.out
        have HP := hide hP
        clear hA hP
        go_wp2_with fail
        go_ret
        rw [← HF.out]
        exact HP.out
      | false =>
        have HF := hide (HSt.out.last HK.out)
        have ho := HL.out.1
        go_wp2_with (at_builtin; refine wpList_append_own _ rfl (.tmp 46) (.tmp 48) 42 rfl w.heap.size 3 i0 (.int .i64 0) 1 8 Tryd.underlying42 hi hz0 hz1 hz2 rfl (by decide) _ (l).length (cellsI (l)) rfl (ho.alloc _) ⟨wr.heap.size, 0, none⟩ 1 1 [.int .i64 x] rfl rfl (one_new _ _ _) (one_cell _) (by unfold maxLen; omega) (by omega) (by simp; omega) ?_)
        intro v' w4 ho4 hg4 _
        obtain ⟨A2, c2, rfl, hA, hP⟩ := (IntRel.step HL ho4 hg4).out
        have HP := hide hP
        clear hA hP ho4 hg4 ho
        go_wp2_with fail
        go_ret
        rw [← HF.out]
        exact HP.out
end Go.Proofs.YtidlnecgfgnllaaDoor
end
