import Derived.Test.YtidlnecgfgnllaaDoorMBtz
import Derived.Test.YtidlnecgfgnllaaDoorMOwr
import Derived.OwnWalk
set_option linter.unusedVariables false
set_option linter.unusedSimpArgs false
section
/-
  The contract of bitset.of at ints: the set of a list, by value. Condition: those of the types.
-/
namespace Go.Proofs.YtidlnecgfgnllaaDoor
open Go.RowKit

theorem w8_zero : w8 (wd 0) = [.int .u64 0, .int .u64 0, .int .u64 0, .int .u64 0, .int .u64 0, .int .u64 0, .int .u64 0, .int .u64 0] := by simp [w8, wd_zero]
theorem SetB.new (w : World) : SetB (w.alloc (.cells #[.int .u64 0, .int .u64 0, .int .u64 0, .int .u64 0, .int .u64 0, .int .u64 0, .int .u64 0, .int .u64 0] 80)) w.heap.size 0 := by
  unfold SetB
  rw [w8_zero]
  exact Row.new w _ _
theorem below_turned {B g : Nat} {w w' w'' : World} (h : Below B w w') (hg : w'.grownBy w'' (some g)) (hB : B ≤ g) (hs : B ≤ w'.heap.size) : Below B w w'' :=
  h.grown hg hs fun k hk => by injection hk with hk; omega

/-- A set stored into block g, word by word. -/
def put8 (w : World) (g : Nat) (f : Nat → Nat) : World :=
  (((((((w.setCell ⟨g, 0, none⟩ (.int .u64 (f 0 : Nat))).setCell ⟨g, 1, none⟩ (.int .u64 (f 1 : Nat))).setCell ⟨g, 2, none⟩ (.int .u64 (f 2 : Nat))).setCell ⟨g, 3, none⟩ (.int .u64 (f 3 : Nat))).setCell ⟨g, 4, none⟩ (.int .u64 (f 4 : Nat))).setCell ⟨g, 5, none⟩ (.int .u64 (f 5 : Nat))).setCell ⟨g, 6, none⟩ (.int .u64 (f 6 : Nat))).setCell ⟨g, 7, none⟩ (.int .u64 (f 7 : Nat))
theorem SetB.put8 {w : World} {g N : Nat} (h : SetB w g N) (M : Nat) : SetB (put8 w g (wd M)) g M :=
  (Row.set_ (Row.set_ (Row.set_ (Row.set_ (Row.set_ (Row.set_ (Row.set_ (Row.set_ h 0 _) 1 _) 2 _) 3 _) 4 _) 5 _) 6 _) 7 (.int .u64 (wd M 7 : Nat)))
theorem below_put8 {B g : Nat} {w w' : World} (h : Below B w w') (hg : B ≤ g) (f : Nat → Nat) : Below B w (put8 w' g f) :=
  (((((((h.setCell (p := ⟨g, 0, none⟩) hg _).setCell (p := ⟨g, 1, none⟩) hg _).setCell (p := ⟨g, 2, none⟩) hg _).setCell (p := ⟨g, 3, none⟩) hg _).setCell (p := ⟨g, 4, none⟩) hg _).setCell (p := ⟨g, 5, none⟩) hg _).setCell (p := ⟨g, 6, none⟩) hg _).setCell (p := ⟨g, 7, none⟩) hg _

/-- What the loop keeps. -/
def OfRel (w : World) (zs : List Int) (n : Nat) (i : Value) (wr : World) : Prop :=
  ∃ k : Nat, k ≤ n ∧ i = .int .i64 k ∧ SetB wr w.heap.size 0 ∧ SetB wr (w.heap.size + 1) (bs (zs.take k)) ∧ Below w.heap.size w wr

set_option maxHeartbeats 400000 in
theorem of_any (A : Option Addr) (n c : Nat) (zs : List Int) (B : Nat) (w : World) (hn : Hid (zs.length = n)) (hm : n ≤ 9223372036854775807) (hs : Hid (Sees w B A (cellsI zs))) (hB : B ≤ w.heap.size) (hz : Hid (∀ z ∈ zs, -9223372036854775808 ≤ z ∧ z ≤ 9223372036854775807)) :
    Calls Tryd.prog 52 #[.slice A n c] w fun e w' => e = .returned (sv (wd (bs zs))) ∧ Below w.heap.size w w' := by
  go_enter Tryd.func52, Tryd.ntmps52
  go_wp2_with fail
  go_loopw [8] (fun i wr => Hid (OfRel w zs n i wr)) (fun i _ => n - (intOf i).toNat)
  case atStart => exact hide ⟨0, by omega, rfl, Row.alloc (SetB.new w) _, Row.at_ (SetB.new _) (by simp), below2 _ _ _⟩
  case round =>
    obtain ⟨k, hk, rfl, hr0, hr1, hb⟩ := hrel.out
    have HR0 := hide hr0
    have HR1 := hide hr1
    have HB := hide hb
    by_cases hlt : k < n
    · have hl : k < zs.length := by have := hn.out; omega
      obtain ⟨b, off, rfl, hbB, hc⟩ := int_at hs.out hl
      have hc' := (hb.cell (p := ⟨b, off + k, none⟩) (by show b < _; omega)).trans hc
      have hzk := hz.out _ (List.getElem_mem hl)
      have HT := hide (take_snoc hl)
      generalize zs[k] = x at hc hc' hzk HT
      have x0 := hzk.1
      have x1 := hzk.2
      clear hrel hr0 hr1 hb hc hzk hl
      go_wp2_with fail
      refine (add_any (w.heap.size + 1) (bs (zs.take k)) x wr HR1 x0 x1).mono ?_
      rintro e w' ⟨rfl, hS, hG⟩
      have R : Hid (OfRel w zs n (.int .i64 ((k : Int) + 1)) w') := hide ⟨k + 1, by omega, by go_num, Row.grown HR0.out hG (by intro h; injection h with h; omega), by rw [HT.out, bs_snoc]; exact hS, below_turned HB.out hG (by omega) HB.out.size⟩
      clear hS hG hc'
      go_wp2_with fail
      go_roundw
      case rel => exact R
      case measure => simp [intOf]; omega
    · obtain rfl : k = n := by omega
      have hT := hide (show bs (zs.take k) = bs zs by rw [List.take_of_length_le (by have := hn.out; omega)])
      rw [hT.out] at hr1
      obtain ⟨c0, c1, c2, c3, c4, c5, c6, c7⟩ := hr1.cells
      have z0 := Row.free hr0 0
      have z1 := Row.free hr0 1
      have z2 := Row.free hr0 2
      have z3 := Row.free hr0 3
      have z4 := Row.free hr0 4
      have z5 := Row.free hr0 5
      have z6 := Row.free hr0 6
      have z7 := Row.free hr0 7
      obtain ⟨d0, d1, d2, d3, d4, d5, d6, d7⟩ := hr0.cells
      clear hrel hr0 hr1 hb
      go_wp2_with fail
      clear c0 c1 c2 c3 c4 c5 c6 c7 d0 d1 d2 d3 d4 d5 d6 d7 z0 z1 z2 z3 z4 z5 z6 z7
      have hS := SetB.put8 HR0.out (bs zs)
      have hBl := hide (below_put8 HB.out (Nat.le_refl _) (wd (bs zs)))
      show bodyPost _ _ _ _ _ (put8 wr w.heap.size (wd (bs zs)))
      generalize put8 wr w.heap.size (wd (bs zs)) = W at hS hBl ⊢
      obtain ⟨c0, c1, c2, c3, c4, c5, c6, c7⟩ := hS.cells
      clear hS
      exact bodyPost_ret (v := sv (wd (bs zs))) (by simp [results, Tryd.results52, go_sem, c0, c1, c2, c3, c4, c5, c6, c7]) rfl ⟨rfl, hBl.out⟩
end Go.Proofs.YtidlnecgfgnllaaDoor
end

section
/-
  The contract of a method of bitset.set[int] on whole sets: count. Conditions: those of the types.
-/
namespace Go.Proofs.YtidlnecgfgnllaaDoor
open Go.RowKit
set_option maxHeartbeats 400000 in
theorem count_any (g N : Nat) (w : World) (h : Hid (SetB w g N)) : Calls Tryd.prog 73 #[.pointer (some ⟨g, 0, none⟩)] w fun e w' => e = .returned (.int .i64 (cnt N 8 : Nat)) ∧ w = w' := by
  obtain ⟨c0, c1, c2, c3, c4, c5, c6, c7⟩ := h.out.cells
  go_enter Tryd.func73, Tryd.ntmps73
  go_wp2_with fail
  clear c0 c1 c2 c3 c4 c5 c6 c7
  go_loop [3, 10] (fun n i => ∃ k : Nat, k ≤ 8 ∧ i = .int .i64 k ∧ n = .int .i64 (cnt N k : Nat)) (fun _ i => 8 - (intOf i).toNat)
  case atStart => exact ⟨0, Nat.zero_le _, rfl, rfl⟩
  case round =>
    obtain ⟨k, hk, rfl, rfl⟩ := hrel
    have hcl := cnt_le N k
    by_cases hlt : k < 8
    · have hi := index8 (wd N) hlt
      have hd : decide ((k : Int) < 8) = true := decide_eq_true (by omega)
      have ol := ones_lt (wd N k)
      go_wp2_with fail
      refine (ones_any (wd N k) w (wd_lt N k)).mono ?_
      rintro e w' ⟨rfl, rfl⟩
      clear hi
      go_wp2_with fail
      go_round
      case rel => exact ⟨k + 1, by omega, by go_num, by show _ = Value.int .i64 ((cnt N k + ones (wd N k) : Nat) : Int); go_num⟩
      case measure => simp [intOf]; omega
    · obtain rfl : k = 8 := by omega
      go_wp2_with fail
      go_ret
      exact ⟨rfl, rfl⟩

end Go.Proofs.YtidlnecgfgnllaaDoor
end

section
/-
  The contract of (*bitset.set[int]).list: a row of the call's own that holds the elements, ascending. Condition: the table of TrailingZeros64 lies as its initialiser lays it.
-/
namespace Go.Proofs.YtidlnecgfgnllaaDoor
open Go.RowKit

theorem low_fact (x : Nat) (hx : x < 18446744073709551616) (h0 : x ≠ 0) : bits BinOp.and IntKind.u64 (x : Int) ((x : Int) - 1) = ((x &&& (x - 1) : Nat) : Int) := by
  rw [show (x : Int) - 1 = ((x - 1 : Nat) : Int) by omega]
  exact bits_and_u64_nat x (x - 1) hx (by omega)

/-- The outer loop: the elements of the first k words. -/
def OutRel (w : World) (N : Nat) (v i : Value) (wr : World) : Prop := ∃ k : Nat, k ≤ 8 ∧ i = .int .i64 k ∧ IntRel w (pre N k) v wr
/-- The inner loop: x is what is left of word k. -/
def InRel (w : World) (N k : Nat) (v i : Value) (wr : World) : Prop := ∃ (x : Nat) (l : List Int), x < 18446744073709551616 ∧ i = .int .u64 x ∧ l ++ bitsL x (64 * k) = pre N (k + 1) ∧ IntRel w l v wr

set_option maxHeartbeats 1000000 in
theorem list_any (g N : Nat) (w : World) (h : Hid (SetB w g N)) (hT : Hid (Tab w)) : Calls Tryd.prog 54 #[.pointer (some ⟨g, 0, none⟩)] w (OutPost (els N) w) := by
  obtain ⟨i0, hi, hz0, hz1, hz2⟩ := info_parts infoI
  have hcnt := cnt_le N 8
  have hc0 := count_any g N w h
  generalize cnt N 8 = m at hcnt hc0
  obtain ⟨c0, c1, c2, c3, c4, c5, c6, c7⟩ := h.out.cells
  go_enter Tryd.func54, Tryd.ntmps54
  go_wp2_with fail
  refine hc0.mono ?_
  rintro e w' ⟨rfl, rfl⟩
  clear hc0
  go_wp2_with (at_make; refine wpList_make_own _ rfl (.const (.int .i64 0)) (.tmp 7) 42 rfl w.heap.size 3 i0 (.int .i64 0) 1 Tryd.underlying42 hi hz0 hz1 .i64 .i64 _ m rfl rfl rfl (by rw [hz2]; omega) (by unfold maxLen; omega) (Nat.le_refl _) ?_)
  intro w0 hown0 hgrow0
  have d0 := hgrow0.cell c0 (by simp)
  have d1 := hgrow0.cell c1 (by simp)
  have d2 := hgrow0.cell c2 (by simp)
  have d3 := hgrow0.cell c3 (by simp)
  have d4 := hgrow0.cell c4 (by simp)
  have d5 := hgrow0.cell c5 (by simp)
  have d6 := hgrow0.cell c6 (by simp)
  have d7 := hgrow0.cell c7 (by simp)
  have HL : Hid (IntRel w (pre N 0) (.slice (some ⟨w.heap.size, 0, none⟩) 0 m) w0) := hide ⟨by rw [pre_zero]; exact hown0, (Below.refl w.heap.size w).grown hgrow0 (Nat.le_refl _) (fun k hk => by cases hk)⟩
  clear c0 c1 c2 c3 c4 c5 c6 c7 hown0 hgrow0
  go_wp2_with fail
  clear d0 d1 d2 d3 d4 d5 d6 d7
  go_loopw [3, 13] (fun v i wr => Hid (OutRel w N v i wr)) (fun _ i _ => 8 - (intOf i).toNat)
  case atStart => exact hide ⟨0, by omega, rfl, HL.out⟩
  case round =>
    obtain ⟨k, hk, rfl, hl⟩ := hrel.out
    have HL' := hide hl
    clear hrel hl HL
    by_cases hlt : k < 8
    · have hx := index8 (wd N) hlt
      have hd : decide ((k : Int) < 8) = true := decide_eq_true (by omega)
      have HS : Hid (InRel w N k u3 (.int .u64 (wd N k : Nat)) wr) := hide ⟨wd N k, pre N k, wd_lt N k, rfl, (pre_succ N k).symm, HL'.out⟩
      go_wp2_with fail
      clear hx
      go_loopw [3, 5] (fun v i wr => Hid (InRel w N k v i wr)) (fun _ i _ => (intOf i).toNat)
      case atStart => exact HS
      case round =>
        obtain ⟨x, l, hx, rfl, hl, hL⟩ := hrel.out
        have HX := hide hl
        have HLi := hide hL
        have hll : l.length ≤ 512 := by
          have h1 := congrArg List.length hl
          have h2 := pre_length N (k + 1)
          rw [List.length_append] at h1
          omega
        clear hrel hl hL HS HL'
        by_cases h0 : x = 0
        · subst h0
          have HO : Hid (OutRel w N u3 (.int .i64 ((k : Int) + 1)) wr) := hide ⟨k + 1, by omega, by go_num, by
            have := HX.out
            rw [bitsL_zero, List.append_nil] at this
            rw [← this]
            exact HLi.out⟩
          rw [show ((0 : Nat) : Int) = 0 from rfl]
          go_wp2_with fail
          go_roundw
          case rel => exact HO
          case measure => simp [intOf]; omega
        · have hne : ((x : Int) != 0) = true := by rw [bne_iff_ne]; omega
          have hne' : ((x : Int) == 0) = false := by simp; omega
          have hT' := hide (hT.out.below HLi.out.2)
          have ct := tz_any x wr hx h0 hT'
          obtain ⟨mm, hmm, ht⟩ := Lib.ctzFrom_spec 64 x (by omega) (by omega)
          rw [show Lib.ctzFrom 64 x = Lib.ctz 64 x by simp [Lib.ctz, h0]] at hmm ht
          have HM := hide hmm
          clear hmm
          generalize Lib.ctz 64 x = t at ct ht HM
          have hlow := low_fact x hx h0
          have hstep := hide (show l ++ [((64 * k + t : Nat) : Int)] ++ bitsL (x &&& (x - 1)) (64 * k) = pre N (k + 1) by rw [← HX.out, bitsL_step HM.out ht]; simp)
          have hy : x &&& (x - 1) < x := Nat.lt_of_le_of_lt Nat.and_le_right (by omega)
          generalize x &&& (x - 1) = y at hlow hstep hy
          have hx1 : 1 ≤ x := by omega
          have hs : wr.heap.size ≥ w.heap.size := HLi.out.2.size
          have e64 : (k : Int) * 64 + (t : Int) = ((64 * k + t : Nat) : Int) := by omega
          have HE := hide e64
          clear h0 e64
          go_wp2_with fail
          refine ct.mono ?_
          rintro e w' ⟨rfl, rfl⟩
          clear ct
          have ho := HLi.out.1
          go_wp2_with (at_builtin; refine wpList_append_own _ rfl (.tmp 19) (.tmp 25) 42 rfl w.heap.size 3 i0 (.int .i64 0) 1 8 Tryd.underlying42 hi hz0 hz1 hz2 rfl (by decide) _ l.length (cellsI l) rfl (ho.alloc _) ⟨wr.heap.size, 0, none⟩ 1 1 [.int .i64 ((k : Int) * 64 + (t : Int))] rfl rfl (one_new _ _ _) (one_cell _) (by unfold maxLen; omega) (by omega) (by simp; omega) ?_)
          intro v' w4 ho4 hg4 _
          rw [HE.out] at ho4 hg4
          have R : Hid (InRel w N k v' (.int .u64 (y : Int)) w4) := hide ⟨y, l ++ [((64 * k + t : Nat) : Int)], by omega, rfl, hstep.out, IntRel.step HLi ho4 hg4⟩
          clear ho4 hg4 ho
          go_wp2_with fail
          go_roundw
          case rel => exact R
          case measure => simp [intOf]; omega
    · obtain rfl : k = 8 := by omega
      obtain ⟨A, c, rfl, hA, hP⟩ := HL'.out.out
      have HP := hide hP
      clear hA hP
      go_wp2_with fail
      go_ret
      exact HP.out
end Go.Proofs.YtidlnecgfgnllaaDoor
end

section
/-
  What the functions of package bitset have in common: a list read as a set. Conditions: those of the types.
-/
namespace Go.Proofs.YtidlnecgfgnllaaDoor
open Go.RowKit
theorem Lst.of {w : World} {A : Option Addr} {n : Nat} {zs : List Int} (h : Lst w A n zs) (c : Nat) : Calls Tryd.prog 52 #[.slice A n c] w fun e w' => e = .returned (sv (wd (bs zs))) ∧ Below w.heap.size w w' :=
  of_any A n c zs w.heap.size w (hide h.len) h.le (hide h.see) (Nat.le_refl _) (hide h.rng)
theorem SetB.made (w : World) (N : Nat) : SetB (w.alloc (.cells #[.int .u64 (wd N 0 : Nat), .int .u64 (wd N 1 : Nat), .int .u64 (wd N 2 : Nat), .int .u64 (wd N 3 : Nat), .int .u64 (wd N 4 : Nat), .int .u64 (wd N 5 : Nat), .int .u64 (wd N 6 : Nat), .int .u64 (wd N 7 : Nat)] 80)) w.heap.size N := Row.new w _ (w8 (wd N))
theorem below_write {w w1 w2 : World} {g N : Nat} {e : Ending} (hb : Below w.heap.size w w1) (h : WritePost g N w1 e w2) (hg : w.heap.size ≤ g) : Below w.heap.size w w2 := below_turned hb h.2.2 hg hb.size

end Go.Proofs.YtidlnecgfgnllaaDoor
end

section
/-
  The contract of a method of bitset.set[int] on one element: remove. Conditions: those of the types.
-/
namespace Go.Proofs.YtidlnecgfgnllaaDoor
open Go.RowKit
theorem remove_any (g N : Nat) (n : Int) (w : World) (h : Hid (SetB w g N)) (h0 : -9223372036854775808 ≤ n) (h1 : n ≤ 9223372036854775807) :
    Calls Tryd.prog 76 #[.pointer (some ⟨g, 0, none⟩), .int .i64 n] w (WritePost g (diff N (one n)) w) := by
  have hk := pl_lt n
  have c := Row.cell h.out (w8_at (wd N) hk)
  have z := Row.free h.out (pl n)
  have e := u64_diff_nat _ _ (wd_lt N (pl n)) (bt_lt n)
  have cp := place_any n w h0 h1
  have K := hide (set_diff N n)
  generalize diff N (one n) = M at K ⊢
  generalize diff (wd N (pl n)) (bt n) = y at e K
  generalize wd N (pl n) = x at c e
  generalize pl n = k at hk c z cp K
  generalize bt n = b at e cp
  have hk0 : (0 : Int) ≤ (k : Int) := by omega
  have hk8 : (k : Int) < 8 := by omega
  go_enter Tryd.func76, Tryd.ntmps76
  go_wp2_with fail
  refine cp.mono ?_
  rintro e w' ⟨rfl, rfl⟩
  go_wp2_with fail
  go_region
  all_goals (go_end0; exact write_end h K)
end Go.Proofs.YtidlnecgfgnllaaDoor
end
