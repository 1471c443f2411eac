import Derived.Test.YtidlnecgfgnllaaDoorMFrows
import Derived.Test.YtidlnecgfgnllaaDoorMFnx
import Derived.Test.YtidlnecgfgnllaaDoorMLcs
import Derived.Test.YtidlnecgfgnllaaDoorMLcg
import Derived.Test.YtidlnecgfgnllaaDoorMOwr
import Derived.Test.YtidlnecgfgnllaaDoorMKit
import Derived.Test.YtidlnecgfgnllaaDoorMBtrem
set_option linter.unusedVariables false
set_option linter.unusedSimpArgs false
section
/-
  The contract of livecheck.eachConstraint at one closure: what holds when it was called with each instruction and each that may follow it, in their order, until it says no. Conditions: those of the types; the function is right.
-/
namespace Go.Proofs.YtidlnecgfgnllaaDoor
open Go.RowKit

section
variable {P : Int} {A1 : Option Addr} {n1 c1 : Nat} {A2 : Option Addr} {n2 c2 : Nat} {l : List Ins} {w : World}
set_option maxRecDepth 100000 in
set_option maxHeartbeats 4000000 in
theorem each3_any (p0 p1 p2 : Nat) (J : Nat → Nat → World → Prop) (E : World → Prop) (w : World) (hok : Hid (FlowOk l)) (hlen : l.length = n2) (hJ0 : Hid (J 0 0 w))
    (hJc : Hid (∀ k i W, J k i W → CdAt W A2 n2 l)) (hJb : Hid (∀ k i W W', J k i W → Below W.heap.size W W' → J k i W')) (hJn : Hid (∀ k W, k < n2 → J k (suc l k).length W → J (k + 1) 0 W))
    (hJv : Hid (∀ (k i j : Nat) (W : World), k < n2 → (suc l k)[i]? = some j → w.heap.size ≤ W.heap.size → J k i W →
      Calls Tryd.prog 33 #[.int .i64 (k : Int), .int .i64 (j : Int), .pointer (some ⟨p0, 0, none⟩), .pointer (some ⟨p1, 0, none⟩), .pointer (some ⟨p2, 0, none⟩)] W fun e W' => ((e = .returned (.bool true) ∧ J k (i + 1) W') ∨ (e = .returned (.bool false) ∧ E W')) ∧ OldK w.heap.size W W')) :
    Calls Tryd.prog 32 #[fv P A1 n1 c1 A2 n2 c2, .func (.func 33) #[] #[.pointer (some ⟨p0, 0, none⟩), .pointer (some ⟨p1, 0, none⟩), .pointer (some ⟨p2, 0, none⟩)]] w fun e w' => e = .returned (.tuple #[]) ∧ (J n2 0 w' ∨ E w') := by
  obtain ⟨W1, hW1⟩ : ∃ W, w.alloc (.cells #[.int .i64 P, .slice A1 n1 c1, .slice A2 n2 c2] 30) = W := ⟨_, rfl⟩
  have F1 := hide (show Row W1 w.heap.size 30 [.int .i64 P, .slice A1 n1 c1, .slice A2 n2 c2] by rw [← hW1]; exact Row.new w _ _)
  have J1 := hide (hJb.out 0 0 w W1 hJ0.out (by rw [← hW1]; exact below1 _ _))
  have HW1 := hide hW1
  have hf := (hJc.out 0 0 w hJ0.out).few
  clear hW1
  go_enter Tryd.func32, Tryd.ntmps32
  go_upto_region 1 with (fail)
  rw [HW1.out]
  have q2 := F1.out.cell (k := 2) rfl
  clear HW1
  go_wp2_with fail
  clear q2
  go_loopw [4, 10] (fun s4 s10 wr => ∃ k : Nat, s10 = .int .i64 (k : Int) ∧ k ≤ n2 ∧ Hid (Row wr w.heap.size 30 [.int .i64 P, .slice A1 n1 c1, .slice A2 n2 c2]) ∧ Hid (J k 0 wr)) (fun _ s10 _ => n2 - (intOf s10).toNat)
  case atStart => exact ⟨0, rfl, by omega, F1, J1⟩
  case round =>
    obtain ⟨k, rfl, hk, hF, hJ⟩ := hrel
    clear F1 J1
    by_cases hlt : k < n2
    · have q0 := hF.out.cell (k := 0) rfl
      have q1 := hF.out.cell (k := 1) rfl
      have q2 := hF.out.cell (k := 2) rfl
      have cn := fnext_any (P := P) (A1 := A1) (n1 := n1) (c1 := c1) (c2 := c2) (k : Int) wr (hide (hJc.out k 0 wr hJ.out)) hok.out
      rw [sucZ_nat] at cn
      have hX2 := hide (suc_len l k)
      have HN := hide (fun (W : World) => hJn.out k W hlt)
      have HV := hide (fun (i j : Nat) (W : World) => hJv.out k i j W hlt)
      obtain ⟨xs, hxs⟩ : ∃ xs, suc l k = xs := ⟨_, rfl⟩
      rw [hxs] at cn hX2 HN HV
      have hk0 : (0 : Int) ≤ (k : Int) := by omega
      have hkn : (k : Int) < (n2 : Int) := by omega
      clear hxs
      go_wp2_with fail
      refine cn.mono ?_
      rintro e w5 ⟨A5, c5, rfl, ho5, hb5⟩
      have F5 := hide (hF.out.call hb5)
      have J5 := hide (hJb.out k 0 wr w5 hJ.out hb5)
      have N5 := hide (show NxAt w5 w.heap.size A5 xs by rw [toI_len] at ho5; exact NxAt.of ho5 (Nat.le_of_lt hF.out.lt))
      rw [toI_len]
      clear hb5 ho5 cn q0 q1 q2 hF hJ
      go_wp2_with fail
      go_loopw [6, 17] (fun s6 s17 wr => ∃ i : Nat, s17 = .int .i64 (i : Int) ∧ i ≤ xs.length ∧ Hid (Row wr w.heap.size 30 [.int .i64 P, .slice A1 n1 c1, .slice A2 n2 c2]) ∧ Hid (J k i wr) ∧ Hid (NxAt wr w.heap.size A5 xs)) (fun _ s17 _ => xs.length - (intOf s17).toNat)
      case atStart => exact ⟨0, rfl, by omega, F5, J5, N5⟩
      case round =>
        obtain ⟨i, rfl, hi, hF, hJ, hN⟩ := hrel
        clear F5 J5 N5
        have hx2 : xs.length ≤ 2 := hX2.out
        by_cases hlt2 : i < xs.length
        · have hjx := List.getElem?_eq_getElem hlt2
          obtain ⟨g5, rfl, x0⟩ := hN.out.at_ hjx
          generalize xs[i] = j at hjx x0
          have cv := HV.out i j wr hjx (Nat.le_of_lt hF.out.lt) hJ.out
          have hi0 : (0 : Int) ≤ (i : Int) := by omega
          have hin : (i : Int) < (xs.length : Int) := by omega
          clear hjx
          go_wp2_with fail
          refine cv.mono ?_
          rintro e w6 ⟨⟨rfl, hJ6⟩ | ⟨rfl, hE6⟩, hO⟩
          · have F6 := hide (hO.row hF.out (Nat.le_refl _))
            have N6 := hide (hN.out.old hO)
            have J6 := hide hJ6
            clear hJ6 hO cv x0 hF hJ hN
            go_wp2_with fail
            go_roundw
            case rel => exact ⟨i + 1, by go_num, by omega, F6, J6, N6⟩
            case measure => simp [intOf]; omega
          · have E6 := hide hE6
            clear hE6 hO cv x0 hF hJ hN
            go_wp2_with fail
            exact bodyPost_ret (results_none rfl _ _ _) rfl ⟨rfl, .inr E6.out⟩
        · obtain rfl : i = xs.length := by omega
          have J7 := hide (HN.out wr hJ.out)
          clear hJ hN
          go_wp2_with fail
          go_roundw
          case rel => exact ⟨k + 1, by go_num, by omega, hF, J7⟩
          case measure => simp [intOf]; omega
    · obtain rfl : k = n2 := by omega
      go_wp2_with fail
      go_end0
      exact ⟨rfl, .inl hJ.out⟩
end
end Go.Proofs.YtidlnecgfgnllaaDoor
end

section
/-
  The contract of livecheck.Slack. Conditions: those of the types; the function is right and has an instruction; the annotation can be read; the table of TrailingZeros64 lies as its initialiser lays it.
-/
namespace Go.Proofs.YtidlnecgfgnllaaDoor
open Go.RowKit

theorem szL_app (a b : List (List Int)) : szL (a ++ b) = szL a + szL b := by simp [szL]
theorem szL_take_le (zss : List (List Int)) (k : Nat) : szL (zss.take k) ≤ szL zss := by
  have h := szL_app (zss.take k) (zss.drop k)
  rw [List.take_append_drop] at h
  omega
section
variable {P : Int} {A1 : Option Addr} {n1 c1 : Nat} {A2 : Option Addr} {n2 c2 : Nat} {AL : Option Addr} {nL cL : Nat} {l : List Ins} {L : List (List Int)} {w : World}
set_option maxRecDepth 100000 in
set_option maxHeartbeats 4000000 in
theorem lslack_any (w : World) (hC : Hid (CdAt w A2 n2 l)) (hok : Hid (LvOk l n1)) (hL : Hid (Ann w AL nL L)) (hT : Hid (Tab w)) (h1 : 1 ≤ n2) :
    Calls Tryd.prog 14 #[fv P A1 n1 c1 A2 n2 c2, .agg #[.slice AL nL cL]] w fun e w' => e = .returned (.int .i64 (slV l n1 L : Nat)) ∧ Below w.heap.size w w' := by
  have hlen := hC.out.len
  have hn2 := hC.out.few
  have hn1 := hok.out.few
  obtain ⟨W2, hW2⟩ : ∃ W, (w.alloc (.cells #[.int .i64 P, .slice A1 n1 c1, .slice A2 n2 c2] 30)).alloc (.cells #[.slice AL nL cL] 25) = W := ⟨_, rfl⟩
  have F2 := hide (show Row W2 w.heap.size 30 [.int .i64 P, .slice A1 n1 c1, .slice A2 n2 c2] by rw [← hW2]; exact (Row.new w _ _).alloc _)
  have L2 := hide (show Row W2 (w.heap.size + 1) 25 [.slice AL nL cL] by rw [← hW2]; exact (Row.new _ _ _).at_ (by simp))
  have B2 := hide (show Below w.heap.size w W2 by rw [← hW2]; exact below2 w _ _)
  have HW2 := hide hW2
  have cc := lcheck_any (P := P) (A1 := A1) (c1 := c1) (c2 := c2) (cL := cL) W2 (hide (hC.out.below B2.out)) hok (hide (hL.out.below B2.out)) (hide (hT.out.below B2.out))
  have q0 := F2.out.cell (k := 0) rfl
  have q1 := F2.out.cell (k := 1) rfl
  have q2 := F2.out.cell (k := 2) rfl
  have q3 := L2.out.cell (k := 0) rfl
  clear hW2
  cases hb : okL l n1 L with
  | false =>
    have hv : slV l n1 L = 0 := by unfold slV; rw [hb]; rfl
    rw [hb, if_neg (by decide)] at cc
    rw [hv]
    clear hb hv
    go_enter Tryd.func14, Tryd.ntmps14
    go_upto_region 1 with (fail)
    rw [HW2.out]
    go_wp2_with fail
    refine cc.mono ?_
    rintro e w3 ⟨rfl, hb3⟩
    have HB3 := hide (below_call B2.out hb3)
    clear cc hb3 q0 q1 q2 q3
    go_wp2_with fail
    go_ret
    exact ⟨rfl, HB3.out⟩
  | true =>
    have hv : slV l n1 L = slN l L := by unfold slV; rw [hb]; rfl
    have HLI := hide (by have h := (okL_iff.1 hb).1; rw [hlen] at h; exact h)
    have hnl : nL = n2 := by have h1 := hL.out.len; have h2 := HLI.out.len; omega
    subst hnl
    rw [hb, if_pos rfl] at cc
    rw [hv]
    obtain ⟨bL, oL, rfl⟩ : ∃ b off, AL = some ⟨b, off, none⟩ := by
      obtain ⟨b, off, A', c', e, -⟩ := hL.out.at_ (i := 0) (by omega)
      exact ⟨b, off, e⟩
    have HSN := hide (show slN l L = szL (frI l L nL 0) by unfold slN; rw [hlen])
    have HFI := hide (frI_in (l := l) HLI.out nL 0)
    rw [HSN.out]
    clear hb hv
    go_enter Tryd.func14, Tryd.ntmps14
    go_upto_region 1 with (fail)
    rw [HW2.out]
    go_wp2_with fail
    refine cc.mono ?_
    rintro e w3 ⟨rfl, hb3⟩
    have F3 := hide (F2.out.call hb3)
    have L3 := hide (L2.out.call hb3)
    have B3 := hide (below_call B2.out hb3)
    have cl := clone2_any ⟨bL, oL, none⟩ nL cL L w3 (hide (hL.out.below B3.out)) h1
    clear cc hb3 q0 q1 q2 q3 F2 L2 B2
    have q3 := L3.out.cell (k := 0) rfl
    go_wp2_with fail
    refine cl.mono ?_
    rintro e w4 ⟨g, c4, vs, sp, rfl, hA4, hb4⟩
    obtain ⟨W5, hW5⟩ : ∃ W, w4.alloc (.cells #[.slice (some ⟨g, 0, none⟩) nL c4] 23) = W := ⟨_, rfl⟩
    have hb5 : Below w4.heap.size w4 W5 := by rw [← hW5]; exact below1 _ _
    obtain ⟨X, hX⟩ : ∃ X, w4.heap.size = X := ⟨_, rfl⟩
    have hI5 : SkI w P A1 n1 c1 A2 nL c2 (some ⟨bL, oL, none⟩) cL X g c4 vs sp (frI l L 0 0) W5 :=
      ⟨(F3.out.call hb4).call hb5, (L3.out.call hb4).call hb5, by rw [← hW5, ← hX]; exact Row.new w4 _ _, by
        rw [frI_start]
        have h6 := hA4.below hb5
        exact ⟨h6.len, h6.row, Nat.le_trans B3.out.size h6.gb, h6.lst⟩, below_call (below_call B3.out hb4) hb5⟩
    have hg5 : g < W5.heap.size := hI5.o.row.lt
    have ce := each3_any (P := P) (A1 := A1) (n1 := n1) (c1 := c1) (c2 := c2) X w.heap.size (w.heap.size + 1) (SkGo w P A1 n1 c1 A2 nL c2 (some ⟨bL, oL, none⟩) cL X g c4 sp l L) (fun _ => False) W5 (hide hok.out.flow) hlen
      (hide ⟨vs, hI5⟩) (hide fun k i W ⟨_, h⟩ => hC.out.below h.b) (hide fun k i W W' ⟨_, h⟩ hb => ⟨_, h.call hb⟩)
      (hide fun k W hk ⟨vs, h⟩ => ⟨vs, by rw [← frI_next]; exact h⟩)
      (hide fun k i j W hk hj hw ⟨_, h⟩ => (sclos_any hC hok hL HLI hT hk (hide hj) hg5 (hide h)).mono fun e W' q => ⟨.inl q.1, q.2⟩)
    have I5 := hide hI5
    have HW5 := hide hW5
    have HX := hide hX
    clear hb4 hb5 hW5 hX hI5 hA4 cl q3 F3 L3 B3
    go_upto_region 4 with (fail)
    rw [HW5.out, HX.out]
    have q0 := I5.out.f.cell (k := 0) rfl
    have q1 := I5.out.f.cell (k := 1) rfl
    have q2 := I5.out.f.cell (k := 2) rfl
    go_wp2_with fail
    refine ce.mono ?_
    rintro e w6 ⟨rfl, hJ⟩
    obtain ⟨vs6, h6⟩ := hJ.resolve_right (fun h => h)
    have I6 := hide h6
    have HZL := hide (show (frI l L nL 0).length = nL from HFI.out.len)
    have hsz := sz_le HFI.out.asc HFI.out.lt
    rw [HZL.out] at hsz
    obtain ⟨zss, hzs⟩ : ∃ z, frI l L nL 0 = z := ⟨_, rfl⟩
    rw [hzs] at I6 HZL hsz
    have hbd : nL * n1 ≤ 1024 * 512 := Nat.mul_le_mul hn2 hn1
    have HZS := hide hzs
    rw [hzs] at HSN
    clear hJ h6 ce q0 q1 q2 hzs I5
    have q4 := I6.out.x.cell (k := 0) rfl
    go_wp2_with fail
    clear q4
    go_loopw [6, 8, 21] (fun s6 s8 s21 wr => ∃ k : Nat, s6 = .int .i64 ((szL (zss.take k) : Nat) : Int) ∧ s21 = .int .i64 (k : Int) ∧ k ≤ nL ∧ Hid (Below w6.heap.size w6 wr)) (fun _ _ s21 _ => nL - (intOf s21).toNat)
    case atStart => exact ⟨0, rfl, rfl, by omega, hide (Below.refl _ _)⟩
    case round =>
      obtain ⟨k, rfl, rfl, hk, hbr⟩ := hrel
      by_cases hlt : k < nL
      · have hk0 : (0 : Int) ≤ (k : Int) := by omega
        have hkn : (k : Int) < (nL : Int) := by omega
        have hkz : k < zss.length := by have := HZL.out; omega
        obtain ⟨Ak, ck, -, z0, -, -⟩ := (I6.out.o.below hbr.out).vat (List.getElem?_eq_getElem hkz)
        have hst := szI_step zss k (List.getElem?_eq_getElem hkz)
        have hle := szL_take_le zss (k + 1)
        have HST := hide hst
        generalize zss[k] = zk at z0 hst HST
        obtain ⟨a, ha⟩ : ∃ a, szL (zss.take k) = a := ⟨_, rfl⟩
        rw [ha] at hst HST
        have hw : IntKind.i64.wrap ((a : Int) + (zk.length : Int)) = (a : Int) + (zk.length : Int) := by rw [IntKind.wrap_i64]; omega
        rw [ha]
        clear hst hle ha
        go_wp2_with fail
        go_roundw
        case rel => exact ⟨k + 1, by rw [HST.out]; go_num, by go_num, by omega, hbr⟩
        case measure => simp [intOf]; omega
      · obtain rfl : k = nL := by omega
        have HT := hide (show zss.take k = zss from List.take_of_length_le (by have := HZL.out; omega))
        have HB := hide (below_call I6.out.b hbr.out)
        rw [HT.out]
        go_wp2_with fail
        go_ret
        exact ⟨by rw [HZS.out]; rfl, HB.out⟩
end
end Go.Proofs.YtidlnecgfgnllaaDoor
end

section
/-
  The contract of spillframeref04.Has: whether a number is in a list of ints. Conditions: those of the types.
-/
namespace Go.Proofs.YtidlnecgfgnllaaDoor
open Go.RowKit

theorem rhas_any (A : Option Addr) (n c : Nat) (zs : List Int) (x : Int) (w : World) (h : Hid (Lst w A n zs)) :
    Calls Tryd.prog 41 #[.slice A n c, .int .i64 x] w fun e w' => e = .returned (.bool (hasB zs x)) ∧ w = w' := by
  have hl := h.out.le
  have HB := hide (show hasB zs x = decide (x ∈ zs) from rfl)
  go_enter Tryd.func41, Tryd.ntmps41
  go_wp2_with fail
  go_loop [5] (fun i => ∃ k : Nat, k ≤ n ∧ i = .int .i64 k ∧ Hid (x ∉ zs.take k)) (fun i => n - (intOf i).toNat)
  case atStart => exact ⟨0, by omega, rfl, hide (by simp)⟩
  case round =>
    obtain ⟨k, hk, rfl, hT⟩ := hrel
    by_cases hlt : k < n
    · have l1 : k < zs.length := by have := h.out.len; omega
      obtain ⟨b1, o1, rfl, _, hc1⟩ := int_at h.out.see l1
      have N1 := hide (fun heq : zs[k] = x => (show hasB zs x = true by unfold hasB; rw [decide_eq_true_iff, ← heq]; exact List.getElem_mem l1))
      have N2 := hide (fun hne : zs[k] ≠ x => (show x ∉ zs.take (k + 1) by
        rw [take_snoc l1, List.mem_append, List.mem_singleton]
        rintro (h1 | h1)
        · exact hT.out h1
        · exact hne h1.symm))
      generalize zs[k] = y at hc1 N1 N2
      clear l1
      by_cases hxy : y = x
      · subst hxy
        have H1 := hide (N1.out rfl)
        clear N1 N2
        go_wp2_with fail
        go_ret
        exact ⟨by rw [H1.out]; rfl, rfl⟩
      · have hne : (y == x) = false := by rw [beq_eq_false_iff_ne]; exact hxy
        have H2 := hide (N2.out hxy)
        clear N1 N2 hxy
        go_wp2_with fail
        go_round
        case rel => exact ⟨k + 1, by omega, by go_num, H2⟩
        case measure => simp [intOf]; omega
    · obtain rfl : k = n := by omega
      have H1 := hide (show hasB zs x = false by
        have h1 := hT.out
        rw [List.take_of_length_le (by have := h.out.len; omega)] at h1
        exact decide_eq_false h1)
      go_wp2_with fail
      go_ret
      exact ⟨by rw [H1.out]; rfl, rfl⟩

end Go.Proofs.YtidlnecgfgnllaaDoor
end

section
/-
  The contract of the reference's minus on lists of ints. Condition: at most 2^40 ints.
-/
namespace Go.Proofs.YtidlnecgfgnllaaDoor
open Go.RowKit
set_option maxHeartbeats 1000000 in
theorem rminus_any (A : Option Addr) (n c : Nat) (zs : List Int) (A' : Option Addr) (n' c' : Nat) (ys : List Int) (w : World) (h : Hid (Lst w A n zs)) (h' : Hid (Lst w A' n' ys)) (hm : n ≤ 1099511627776) :
    Calls Tryd.prog 40 #[.slice A n c, .slice A' n' c'] w (OutPost (minusL zs ys) w) := by
  obtain ⟨i0, hi, hz0, hz1, hz2⟩ := info_parts infoI
  have HR := hide (show minusL zs ys = zs.filter (fun z => !decide (z ∈ ys)) from rfl)
  rw [HR.out]
  obtain ⟨p, ep⟩ : ∃ p : Int → Bool, p = fun z => !decide (z ∈ ys) := ⟨_, rfl⟩
  rw [← ep]
  have HP := hide (fun z => congrFun ep z)
  clear ep HR
  go_enter Tryd.func40, Tryd.ntmps40
  go_wp2_with fail
  go_loopw [5, 6] (fun v i wr => Hid (FilRel w p zs n v i wr)) (fun _ i _ => n - (intOf i).toNat)
  case atStart => exact hide ⟨0, [], by omega, rfl, by simp, IntRel.start w w (Below.refl _ _)⟩
  case round =>
    obtain ⟨k, l, hk, rfl, hlf, hL⟩ := hrel.out
    have HL := hide hL
    have hll : l.length ≤ k := FilRel.len hlf
    have HF := hide hlf
    have hs : wr.heap.size ≥ w.heap.size := hL.2.size
    clear hrel hL hlf
    by_cases hlt : k < n
    · have l1 : k < zs.length := by have := h.out.len; omega
      obtain ⟨b1, o1, rfl, _, hc0⟩ := int_at h.out.see l1
      have hc1 := keep_cellB HL.out.2 hc0
      have HK := hide (take_snoc l1)
      generalize zs[k] = y at hc0 hc1 HK
      have ho := HL.out.1
      have HPy := hide (HP.out y)
      have N1 := hide (fun hy : p y = true => (show l ++ [y] = (zs.take (k + 1)).filter p by rw [HK.out, filter_snoc, if_pos hy, HF.out]))
      have N2 := hide (fun hy : p y = false => (show l = (zs.take (k + 1)).filter p by rw [HK.out, filter_snoc, if_neg (by rw [hy]; simp), HF.out]))
      clear l1 hc0
      have ch := rhas_any A' n' c' ys y wr (hide (h'.out.below HL.out.2))
      cases hv : hasB ys y with
      | true =>
        have HV := hide hv
        clear hv
        have HY := hide (N2.out (by rw [HPy.out, show decide (y ∈ ys) = hasB ys y from rfl, HV.out]; try rfl))
        rw [HV.out] at ch
        clear N1 N2 ho
        go_wp2_with fail
        refine ch.mono ?_
        rintro e w' ⟨rfl, rfl⟩
        clear ch
        go_wp2_with fail
        go_roundw
        case rel => exact hide ⟨k + 1, l, by omega, by go_num, HY.out, HL.out⟩
        case measure => simp [intOf]; omega
      | false =>
        have HV := hide hv
        clear hv
        have HY := hide (N1.out (by rw [HPy.out, show decide (y ∈ ys) = hasB ys y from rfl, HV.out]; try rfl))
        rw [HV.out] at ch
        clear N1 N2
        go_wp2_with fail
        refine ch.mono ?_
        rintro e w' ⟨rfl, rfl⟩
        clear ch
        go_wp2_with (at_builtin; refine wpList_append_own _ rfl (.tmp 20) (.tmp 25) 42 rfl w.heap.size 3 i0 (.int .i64 0) 1 8 Tryd.underlying42 hi hz0 hz1 hz2 rfl (by decide) _ l.length (cellsI l) rfl (ho.alloc _) ⟨wr.heap.size, 0, none⟩ 1 1 [.int .i64 y] rfl rfl (one_new _ _ _) (one_cell _) (by unfold maxLen; omega) (by omega) (by simp; omega) ?_)
        intro v' w4 ho4 hg4 _
        have R : Hid (FilRel w p zs n v' (.int .i64 ((k : Int) + 1)) w4) := hide ⟨k + 1, l ++ [y], by omega, by go_num, HY.out, IntRel.step HL ho4 hg4⟩
        clear ho4 hg4 ho hc1
        go_wp2_with fail
        go_roundw
        case rel => exact R
        case measure => simp [intOf]; omega
    · obtain rfl : k = n := by omega
      have HK := hide (show l = zs.filter p by rw [HF.out, List.take_of_length_le (by have := h.out.len; omega)])
      obtain ⟨A2, c2, rfl, hA, hP⟩ := HL.out.out
      have HP2 := hide hP
      clear hA hP
      go_wp2_with fail
      go_ret
      rw [← HK.out]
      exact HP2.out
section
variable {A A' : Option Addr} {n n' : Nat} {a b r : List Int} {w : World}
theorem s_minus (c c' : Nat) (h : Hid (Lst w A n a)) (h' : Hid (Lst w A' n' b)) (ha : Hid (Asc a)) (hr : Hid (minusL a b = r)) : Calls Tryd.prog 40 #[.slice A n c, .slice A' n' c'] w (OutPost r w) := by
  have := rminus_any A n c a A' n' c' b w h h' (by have := few h ha; omega)
  rwa [hr.out] at this
end
end Go.Proofs.YtidlnecgfgnllaaDoor
end
