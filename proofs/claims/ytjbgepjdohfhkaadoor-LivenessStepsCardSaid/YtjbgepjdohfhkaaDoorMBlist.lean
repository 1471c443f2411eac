import Derived.Test.YtjbgepjdohfhkaaDoorMBof
import Derived.Test.YtjbgepjdohfhkaaDoorMKit
import Derived.Test.YtjbgepjdohfhkaaDoorMBtz
import Derived.OwnWalk
set_option linter.unusedVariables false
set_option linter.unusedSimpArgs false
section
/-
  The contract of (*bitset.set[int]).list: a row of the call's own that holds the elements, ascending. Condition: the table of TrailingZeros64 lies as its initialiser lays it.
-/
namespace Go.Proofs.YtjbgepjdohfhkaaDoor
open Go.RowKit

theorem low_fact (x : Nat) (hx : x < 18446744073709551616) (h0 : x ≠ 0) : bits BinOp.and IntKind.u64 (x : Int) ((x : Int) - 1) = ((x &&& (x - 1) : Nat) : Int) := by
  rw [show (x : Int) - 1 = ((x - 1 : Nat) : Int) by omega]
  exact bits_and_u64_nat x (x - 1) hx (by omega)

/-- The outer loop: the elements of the first k words. -/
def OutRel (w : World) (N : Nat) (v i : Value) (wr : World) : Prop := ∃ k : Nat, k ≤ 8 ∧ i = .int .i64 k ∧ IntRel w (pre N k) v wr
/-- The inner loop: x is what is left of word k. -/
def InRel (w : World) (N k : Nat) (v i : Value) (wr : World) : Prop := ∃ (x : Nat) (l : List Int), x < 18446744073709551616 ∧ i = .int .u64 x ∧ l ++ bitsL x (64 * k) = pre N (k + 1) ∧ IntRel w l v wr

set_option maxHeartbeats 1000000 in
theorem list_any (g N : Nat) (w : World) (h : Hid (SetB w g N)) (hT : Hid (Tab w)) : Calls Tryd.prog 50 #[.pointer (some ⟨g, 0, none⟩)] w (OutPost (els N) w) := by
  obtain ⟨i0, hi, hz0, hz1, hz2⟩ := info_parts infoI
  have hcnt := cnt_le N 8
  have hc0 := count_any g N w h
  generalize cnt N 8 = m at hcnt hc0
  obtain ⟨c0, c1, c2, c3, c4, c5, c6, c7⟩ := h.out.cells
  go_enter Tryd.func50, Tryd.ntmps50
  go_wp2_with fail
  refine hc0.mono ?_
  rintro e w' ⟨rfl, rfl⟩
  clear hc0
  go_wp2_with (at_make; refine wpList_make_own _ rfl (.const (.int .i64 0)) (.tmp 7) 42 rfl w.heap.size 3 i0 (.int .i64 0) 1 Tryd.underlying42 hi hz0 hz1 .i64 .i64 _ m rfl rfl rfl (by rw [hz2]; omega) (by unfold maxLen; omega) (Nat.le_refl _) ?_)
  intro w0 hown0 hgrow0
  have d0 := hgrow0.cell c0 (by simp)
  have d1 := hgrow0.cell c1 (by simp)
  have d2 := hgrow0.cell c2 (by simp)
  have d3 := hgrow0.cell c3 (by simp)
  have d4 := hgrow0.cell c4 (by simp)
  have d5 := hgrow0.cell c5 (by simp)
  have d6 := hgrow0.cell c6 (by simp)
  have d7 := hgrow0.cell c7 (by simp)
  have HL : Hid (IntRel w (pre N 0) (.slice (some ⟨w.heap.size, 0, none⟩) 0 m) w0) := hide ⟨by rw [pre_zero]; exact hown0, (Below.refl w.heap.size w).grown hgrow0 (Nat.le_refl _) (fun k hk => by cases hk)⟩
  clear c0 c1 c2 c3 c4 c5 c6 c7 hown0 hgrow0
  go_wp2_with fail
  clear d0 d1 d2 d3 d4 d5 d6 d7
  go_loopw [3, 13] (fun v i wr => Hid (OutRel w N v i wr)) (fun _ i _ => 8 - (intOf i).toNat)
  case atStart => exact hide ⟨0, by omega, rfl, HL.out⟩
  case round =>
    obtain ⟨k, hk, rfl, hl⟩ := hrel.out
    have HL' := hide hl
    clear hrel hl HL
    by_cases hlt : k < 8
    · have hx := index8 (wd N) hlt
      have hd : decide ((k : Int) < 8) = true := decide_eq_true (by omega)
      have HS : Hid (InRel w N k u3 (.int .u64 (wd N k : Nat)) wr) := hide ⟨wd N k, pre N k, wd_lt N k, rfl, (pre_succ N k).symm, HL'.out⟩
      go_wp2_with fail
      clear hx
      go_loopw [3, 5] (fun v i wr => Hid (InRel w N k v i wr)) (fun _ i _ => (intOf i).toNat)
      case atStart => exact HS
      case round =>
        obtain ⟨x, l, hx, rfl, hl, hL⟩ := hrel.out
        have HX := hide hl
        have HLi := hide hL
        have hll : l.length ≤ 512 := by
          have h1 := congrArg List.length hl
          have h2 := pre_length N (k + 1)
          rw [List.length_append] at h1
          omega
        clear hrel hl hL HS HL'
        by_cases h0 : x = 0
        · subst h0
          have HO : Hid (OutRel w N u3 (.int .i64 ((k : Int) + 1)) wr) := hide ⟨k + 1, by omega, by go_num, by
            have := HX.out
            rw [bitsL_zero, List.append_nil] at this
            rw [← this]
            exact HLi.out⟩
          rw [show ((0 : Nat) : Int) = 0 from rfl]
          go_wp2_with fail
          go_roundw
          case rel => exact HO
          case measure => simp [intOf]; omega
        · have hne : ((x : Int) != 0) = true := by rw [bne_iff_ne]; omega
          have hne' : ((x : Int) == 0) = false := by simp; omega
          have hT' := hide (hT.out.below HLi.out.2)
          have ct := tz_any x wr hx h0 hT'
          obtain ⟨mm, hmm, ht⟩ := Lib.ctzFrom_spec 64 x (by omega) (by omega)
          rw [show Lib.ctzFrom 64 x = Lib.ctz 64 x by simp [Lib.ctz, h0]] at hmm ht
          have HM := hide hmm
          clear hmm
          generalize Lib.ctz 64 x = t at ct ht HM
          have hlow := low_fact x hx h0
          have hstep := hide (show l ++ [((64 * k + t : Nat) : Int)] ++ bitsL (x &&& (x - 1)) (64 * k) = pre N (k + 1) by rw [← HX.out, bitsL_step HM.out ht]; simp)
          have hy : x &&& (x - 1) < x := Nat.lt_of_le_of_lt Nat.and_le_right (by omega)
          generalize x &&& (x - 1) = y at hlow hstep hy
          have hx1 : 1 ≤ x := by omega
          have hs : wr.heap.size ≥ w.heap.size := HLi.out.2.size
          have e64 : (k : Int) * 64 + (t : Int) = ((64 * k + t : Nat) : Int) := by omega
          have HE := hide e64
          clear h0 e64
          go_wp2_with fail
          refine ct.mono ?_
          rintro e w' ⟨rfl, rfl⟩
          clear ct
          have ho := HLi.out.1
          go_wp2_with (at_builtin; refine wpList_append_own _ rfl (.tmp 19) (.tmp 25) 42 rfl w.heap.size 3 i0 (.int .i64 0) 1 8 Tryd.underlying42 hi hz0 hz1 hz2 rfl (by decide) _ l.length (cellsI l) rfl (ho.alloc _) ⟨wr.heap.size, 0, none⟩ 1 1 [.int .i64 ((k : Int) * 64 + (t : Int))] rfl rfl (one_new _ _ _) (one_cell _) (by unfold maxLen; omega) (by omega) (by simp; omega) ?_)
          intro v' w4 ho4 hg4 _
          rw [HE.out] at ho4 hg4
          have R : Hid (InRel w N k v' (.int .u64 (y : Int)) w4) := hide ⟨y, l ++ [((64 * k + t : Nat) : Int)], by omega, rfl, hstep.out, IntRel.step HLi ho4 hg4⟩
          clear ho4 hg4 ho
          go_wp2_with fail
          go_roundw
          case rel => exact R
          case measure => simp [intOf]; omega
    · obtain rfl : k = 8 := by omega
      obtain ⟨A, c, rfl, hA, hP⟩ := HL'.out.out
      have HP := hide hP
      clear hA hP
      go_wp2_with fail
      go_ret
      exact HP.out
end Go.Proofs.YtjbgepjdohfhkaaDoor
end

section
/-
  What the functions of package bitset have in common: a list read as a set. Conditions: those of the types.
-/
namespace Go.Proofs.YtjbgepjdohfhkaaDoor
open Go.RowKit
theorem Lst.of {w : World} {A : Option Addr} {n : Nat} {zs : List Int} (h : Lst w A n zs) (c : Nat) : Calls Tryd.prog 48 #[.slice A n c] w fun e w' => e = .returned (sv (wd (bs zs))) ∧ Below w.heap.size w w' :=
  of_any A n c zs w.heap.size w (hide h.len) h.le (hide h.see) (Nat.le_refl _) (hide h.rng)
theorem SetB.made (w : World) (N : Nat) : SetB (w.alloc (.cells #[.int .u64 (wd N 0 : Nat), .int .u64 (wd N 1 : Nat), .int .u64 (wd N 2 : Nat), .int .u64 (wd N 3 : Nat), .int .u64 (wd N 4 : Nat), .int .u64 (wd N 5 : Nat), .int .u64 (wd N 6 : Nat), .int .u64 (wd N 7 : Nat)] 74)) w.heap.size N := Row.new w _ (w8 (wd N))
theorem below_write {w w1 w2 : World} {g N : Nat} {e : Ending} (hb : Below w.heap.size w w1) (h : WritePost g N w1 e w2) (hg : w.heap.size ≤ g) : Below w.heap.size w w2 := below_turned hb h.2.2 hg hb.size

end Go.Proofs.YtjbgepjdohfhkaaDoor
end

section
/-
  The contract of a method of bitset.set[int] on one element: remove. Conditions: those of the types.
-/
namespace Go.Proofs.YtjbgepjdohfhkaaDoor
open Go.RowKit
theorem remove_any (g N : Nat) (n : Int) (w : World) (h : Hid (SetB w g N)) (h0 : -9223372036854775808 ≤ n) (h1 : n ≤ 9223372036854775807) :
    Calls Tryd.prog 62 #[.pointer (some ⟨g, 0, none⟩), .int .i64 n] w (WritePost g (diff N (one n)) w) := by
  have hk := pl_lt n
  have c := Row.cell h.out (w8_at (wd N) hk)
  have z := Row.free h.out (pl n)
  have e := u64_diff_nat _ _ (wd_lt N (pl n)) (bt_lt n)
  have cp := place_any n w h0 h1
  have K := hide (set_diff N n)
  generalize diff N (one n) = M at K ⊢
  generalize diff (wd N (pl n)) (bt n) = y at e K
  generalize wd N (pl n) = x at c e
  generalize pl n = k at hk c z cp K
  generalize bt n = b at e cp
  have hk0 : (0 : Int) ≤ (k : Int) := by omega
  have hk8 : (k : Int) < 8 := by omega
  go_enter Tryd.func62, Tryd.ntmps62
  go_wp2_with fail
  refine cp.mono ?_
  rintro e w' ⟨rfl, rfl⟩
  go_wp2_with fail
  go_region
  all_goals (go_end0; exact write_end h K)
end Go.Proofs.YtjbgepjdohfhkaaDoor
end

section
/-
  The contract of a function of package bitset, for any lists and in the reference's words: remove. Conditions: those of the types; the table of TrailingZeros64 lies as its initialiser lays it.
-/
namespace Go.Proofs.YtjbgepjdohfhkaaDoor
open Go.RowKit
set_option maxHeartbeats 400000 in
theorem top_remove_any (A : Option Addr) (n c : Nat) (zs : List Int) (x : Int) (w : World) (h : Hid (Lst w A n zs)) (x0 : -9223372036854775808 ≤ x) (x1 : x ≤ 9223372036854775807) (hT : Hid (Tab w)) : Calls Tryd.prog 38 #[.slice A n c, .int .i64 x] w (OutPost (els (diff (bs zs) (one x))) w) := by
  have c0 := h.out.of c
  generalize bs zs = N0 at c0 ⊢
  go_enter Tryd.func38, Tryd.ntmps38
  go_wp2_with fail
  refine c0.mono ?_
  rintro e w1 ⟨rfl, hb1⟩
  clear c0
  have HB1 := hide hb1
  clear hb1
  go_wp2_with fail
  have hS1 := hide (SetB.made w1 N0)
  have HB2 := hide (below_call HB1.out (below1 w1 (.cells #[.int .u64 (wd N0 0 : Nat), .int .u64 (wd N0 1 : Nat), .int .u64 (wd N0 2 : Nat), .int .u64 (wd N0 3 : Nat), .int .u64 (wd N0 4 : Nat), .int .u64 (wd N0 5 : Nat), .int .u64 (wd N0 6 : Nat), .int .u64 (wd N0 7 : Nat)] 74)))
  have hg1 : w.heap.size ≤ w1.heap.size := HB1.out.size
  refine (remove_any w1.heap.size N0 x _ hS1 x0 x1).mono ?_
  rintro e w5 hP
  have HS5 := hide hP.2.1
  have HB5 := hide (below_write HB2.out hP hg1)
  obtain ⟨rfl, -, -⟩ := hP
  clear hS1 HB2
  go_wp2_with fail
  refine (list_any w1.heap.size (diff (N0) (one x)) _ HS5 (hide (hT.out.below HB5.out))).mono ?_
  rintro e w' hP
  obtain ⟨A2, c2, rfl, -, -⟩ := id hP
  have HP := hide (hP.lift HB5.out)
  clear hP HS5
  go_wp2_with fail
  go_ret
  exact HP.out
section
variable {A A' : Option Addr} {n n' : Nat} {a b r : List Int} {w : World}
theorem t_remove (c : Nat) {x : Int} (h : Hid (Lst w A n a)) (ha : Hid (Asc a)) (x0 : -9223372036854775808 ≤ x) (x1 : x ≤ 9223372036854775807) (hT : Hid (Tab w)) (hr : Hid (removeL a x = r)) : Calls Tryd.prog 38 #[.slice A n c, .int .i64 x] w (OutPost r w) := by
  have := top_remove_any A n c a x w h x0 x1 hT
  rwa [els_remove ha.out, hr.out] at this
end
end Go.Proofs.YtjbgepjdohfhkaaDoor
end
