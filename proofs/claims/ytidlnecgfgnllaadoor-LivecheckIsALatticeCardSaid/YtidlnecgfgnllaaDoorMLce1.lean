import Derived.Test.YtidlnecgfgnllaaDoorMFrows
import Derived.Test.YtidlnecgfgnllaaDoorMFnx
import Derived.Test.YtidlnecgfgnllaaDoorMBof
import Derived.Test.YtidlnecgfgnllaaDoorMFgr
import Derived.Test.YtidlnecgfgnllaaDoorMKit
set_option linter.unusedVariables false
set_option linter.unusedSimpArgs false
section
/-
  The contract of livecheck.eachConstraint at one closure: what holds when it was called with each instruction and each that may follow it, in their order, until it says no. Conditions: those of the types; the function is right.
-/
namespace Go.Proofs.YtidlnecgfgnllaaDoor
open Go.RowKit

section
variable {P : Int} {A1 : Option Addr} {n1 c1 : Nat} {A2 : Option Addr} {n2 c2 : Nat} {l : List Ins} {w : World}
set_option maxRecDepth 100000 in
set_option maxHeartbeats 4000000 in
theorem each1_any (p0 p1 p2 p3 p4 : Nat) (J : Nat → Nat → World → Prop) (E : World → Prop) (w : World) (hok : Hid (FlowOk l)) (hlen : l.length = n2) (hJ0 : Hid (J 0 0 w))
    (hJc : Hid (∀ k i W, J k i W → CdAt W A2 n2 l)) (hJb : Hid (∀ k i W W', J k i W → Below W.heap.size W W' → J k i W')) (hJn : Hid (∀ k W, k < n2 → J k (suc l k).length W → J (k + 1) 0 W))
    (hJv : Hid (∀ (k i j : Nat) (W : World), k < n2 → (suc l k)[i]? = some j → w.heap.size ≤ W.heap.size → J k i W →
      Calls Tryd.prog 47 #[.int .i64 (k : Int), .int .i64 (j : Int), .pointer (some ⟨p0, 0, none⟩), .pointer (some ⟨p1, 0, none⟩), .pointer (some ⟨p2, 0, none⟩), .pointer (some ⟨p3, 0, none⟩), .pointer (some ⟨p4, 0, none⟩)] W fun e W' => ((e = .returned (.bool true) ∧ J k (i + 1) W') ∨ (e = .returned (.bool false) ∧ E W')) ∧ OldK w.heap.size W W')) :
    Calls Tryd.prog 32 #[fv P A1 n1 c1 A2 n2 c2, .func (.func 47) #[] #[.pointer (some ⟨p0, 0, none⟩), .pointer (some ⟨p1, 0, none⟩), .pointer (some ⟨p2, 0, none⟩), .pointer (some ⟨p3, 0, none⟩), .pointer (some ⟨p4, 0, none⟩)]] w fun e w' => e = .returned (.tuple #[]) ∧ (J n2 0 w' ∨ E w') := by
  obtain ⟨W1, hW1⟩ : ∃ W, w.alloc (.cells #[.int .i64 P, .slice A1 n1 c1, .slice A2 n2 c2] 30) = W := ⟨_, rfl⟩
  have F1 := hide (show Row W1 w.heap.size 30 [.int .i64 P, .slice A1 n1 c1, .slice A2 n2 c2] by rw [← hW1]; exact Row.new w _ _)
  have J1 := hide (hJb.out 0 0 w W1 hJ0.out (by rw [← hW1]; exact below1 _ _))
  have HW1 := hide hW1
  have hf := (hJc.out 0 0 w hJ0.out).few
  clear hW1
  go_enter Tryd.func32, Tryd.ntmps32
  go_upto_region 1 with (fail)
  rw [HW1.out]
  have q2 := F1.out.cell (k := 2) rfl
  clear HW1
  go_wp2_with fail
  clear q2
  go_loopw [4, 10] (fun s4 s10 wr => ∃ k : Nat, s10 = .int .i64 (k : Int) ∧ k ≤ n2 ∧ Hid (Row wr w.heap.size 30 [.int .i64 P, .slice A1 n1 c1, .slice A2 n2 c2]) ∧ Hid (J k 0 wr)) (fun _ s10 _ => n2 - (intOf s10).toNat)
  case atStart => exact ⟨0, rfl, by omega, F1, J1⟩
  case round =>
    obtain ⟨k, rfl, hk, hF, hJ⟩ := hrel
    clear F1 J1
    by_cases hlt : k < n2
    · have q0 := hF.out.cell (k := 0) rfl
      have q1 := hF.out.cell (k := 1) rfl
      have q2 := hF.out.cell (k := 2) rfl
      have cn := fnext_any (P := P) (A1 := A1) (n1 := n1) (c1 := c1) (c2 := c2) (k : Int) wr (hide (hJc.out k 0 wr hJ.out)) hok.out
      rw [sucZ_nat] at cn
      have hX2 := hide (suc_len l k)
      have HN := hide (fun (W : World) => hJn.out k W hlt)
      have HV := hide (fun (i j : Nat) (W : World) => hJv.out k i j W hlt)
      obtain ⟨xs, hxs⟩ : ∃ xs, suc l k = xs := ⟨_, rfl⟩
      rw [hxs] at cn hX2 HN HV
      have hk0 : (0 : Int) ≤ (k : Int) := by omega
      have hkn : (k : Int) < (n2 : Int) := by omega
      clear hxs
      go_wp2_with fail
      refine cn.mono ?_
      rintro e w5 ⟨A5, c5, rfl, ho5, hb5⟩
      have F5 := hide (hF.out.call hb5)
      have J5 := hide (hJb.out k 0 wr w5 hJ.out hb5)
      have N5 := hide (show NxAt w5 w.heap.size A5 xs by rw [toI_len] at ho5; exact NxAt.of ho5 (Nat.le_of_lt hF.out.lt))
      rw [toI_len]
      clear hb5 ho5 cn q0 q1 q2 hF hJ
      go_wp2_with fail
      go_loopw [6, 17] (fun s6 s17 wr => ∃ i : Nat, s17 = .int .i64 (i : Int) ∧ i ≤ xs.length ∧ Hid (Row wr w.heap.size 30 [.int .i64 P, .slice A1 n1 c1, .slice A2 n2 c2]) ∧ Hid (J k i wr) ∧ Hid (NxAt wr w.heap.size A5 xs)) (fun _ s17 _ => xs.length - (intOf s17).toNat)
      case atStart => exact ⟨0, rfl, by omega, F5, J5, N5⟩
      case round =>
        obtain ⟨i, rfl, hi, hF, hJ, hN⟩ := hrel
        clear F5 J5 N5
        have hx2 : xs.length ≤ 2 := hX2.out
        by_cases hlt2 : i < xs.length
        · have hjx := List.getElem?_eq_getElem hlt2
          obtain ⟨g5, rfl, x0⟩ := hN.out.at_ hjx
          generalize xs[i] = j at hjx x0
          have cv := HV.out i j wr hjx (Nat.le_of_lt hF.out.lt) hJ.out
          have hi0 : (0 : Int) ≤ (i : Int) := by omega
          have hin : (i : Int) < (xs.length : Int) := by omega
          clear hjx
          go_wp2_with fail
          refine cv.mono ?_
          rintro e w6 ⟨⟨rfl, hJ6⟩ | ⟨rfl, hE6⟩, hO⟩
          · have F6 := hide (hO.row hF.out (Nat.le_refl _))
            have N6 := hide (hN.out.old hO)
            have J6 := hide hJ6
            clear hJ6 hO cv x0 hF hJ hN
            go_wp2_with fail
            go_roundw
            case rel => exact ⟨i + 1, by go_num, by omega, F6, J6, N6⟩
            case measure => simp [intOf]; omega
          · have E6 := hide hE6
            clear hE6 hO cv x0 hF hJ hN
            go_wp2_with fail
            exact bodyPost_ret (results_none rfl _ _ _) rfl ⟨rfl, .inr E6.out⟩
        · obtain rfl : i = xs.length := by omega
          have J7 := hide (HN.out wr hJ.out)
          clear hJ hN
          go_wp2_with fail
          go_roundw
          case rel => exact ⟨k + 1, by go_num, by omega, hF, J7⟩
          case measure => simp [intOf]; omega
    · obtain rfl : k = n2 := by omega
      go_wp2_with fail
      go_end0
      exact ⟨rfl, .inl hJ.out⟩
end
end Go.Proofs.YtidlnecgfgnllaaDoor
end

section
/-
  The contract of a function of package bitset, for any lists and in the reference's words: of. Conditions: those of the types; the table of TrailingZeros64 lies as its initialiser lays it.
-/
namespace Go.Proofs.YtidlnecgfgnllaaDoor
open Go.RowKit
set_option maxHeartbeats 400000 in
theorem top_of_any (A : Option Addr) (n c : Nat) (zs : List Int) (w : World) (h : Hid (Lst w A n zs)) (hT : Hid (Tab w)) : Calls Tryd.prog 64 #[.slice A n c] w (OutPost (els (bs zs)) w) := by
  have c0 := h.out.of c
  generalize bs zs = N0 at c0 ⊢
  go_enter Tryd.func64, Tryd.ntmps64
  go_wp2_with fail
  refine c0.mono ?_
  rintro e w1 ⟨rfl, hb1⟩
  clear c0
  have HB1 := hide hb1
  clear hb1
  go_wp2_with fail
  have hS1 := hide (SetB.made w1 N0)
  have HB2 := hide (below_call HB1.out (below1 w1 (.cells #[.int .u64 (wd N0 0 : Nat), .int .u64 (wd N0 1 : Nat), .int .u64 (wd N0 2 : Nat), .int .u64 (wd N0 3 : Nat), .int .u64 (wd N0 4 : Nat), .int .u64 (wd N0 5 : Nat), .int .u64 (wd N0 6 : Nat), .int .u64 (wd N0 7 : Nat)] 80)))
  have hg1 : w.heap.size ≤ w1.heap.size := HB1.out.size
  refine (list_any w1.heap.size (N0) _ hS1 (hide (hT.out.below HB2.out))).mono ?_
  rintro e w' hP
  obtain ⟨A2, c2, rfl, -, -⟩ := id hP
  have HP := hide (hP.lift HB2.out)
  clear hP hS1
  go_wp2_with fail
  go_ret
  exact HP.out
section
variable {A A' : Option Addr} {n n' : Nat} {a b r : List Int} {w : World}
theorem t_of (c : Nat) (h : Hid (Lst w A n a)) (hT : Hid (Tab w)) (hr : Hid (unionL [] a = r)) : Calls Tryd.prog 64 #[.slice A n c] w (OutPost r w) := by
  have := top_of_any A n c a w h hT
  rwa [els_of, hr.out] at this
end
end Go.Proofs.YtidlnecgfgnllaaDoor
end

section
/-
  The contract of the reference's good: whether a number can be in a set. No condition.
-/
namespace Go.Proofs.YtidlnecgfgnllaaDoor
open Go.RowKit
theorem good_any (n : Int) (w : World) : Calls Tryd.prog 39 #[.int .i64 n] w fun e w' => e = .returned (.bool (goodB n)) ∧ w = w' := by
  by_cases h : 0 ≤ n
  · go_enter Tryd.func39, Tryd.ntmps39
    go_wp2
    go_ret
    exact ⟨ret_bool (by simp [goodB, h]), rfl⟩
  · go_enter Tryd.func39, Tryd.ntmps39
    go_wp2
    go_ret
    exact ⟨ret_bool (by simp [goodB]; omega), rfl⟩

end Go.Proofs.YtidlnecgfgnllaaDoor
end
