import Derived.Test.YtjbgepjdohfhkaaDoorMBtz
set_option linter.unusedVariables false
set_option linter.unusedSimpArgs false
section
/-
  The contract of bitset.of at ints: the set of a list, by value. Condition: those of the types.
-/
namespace Go.Proofs.YtjbgepjdohfhkaaDoor
open Go.RowKit

theorem w8_zero : w8 (wd 0) = [.int .u64 0, .int .u64 0, .int .u64 0, .int .u64 0, .int .u64 0, .int .u64 0, .int .u64 0, .int .u64 0] := by simp [w8, wd_zero]
theorem SetB.new (w : World) : SetB (w.alloc (.cells #[.int .u64 0, .int .u64 0, .int .u64 0, .int .u64 0, .int .u64 0, .int .u64 0, .int .u64 0, .int .u64 0] 74)) w.heap.size 0 := by
  unfold SetB
  rw [w8_zero]
  exact Row.new w _ _
theorem below_turned {B g : Nat} {w w' w'' : World} (h : Below B w w') (hg : w'.grownBy w'' (some g)) (hB : B ≤ g) (hs : B ≤ w'.heap.size) : Below B w w'' :=
  h.grown hg hs fun k hk => by injection hk with hk; omega

/-- A set stored into block g, word by word. -/
def put8 (w : World) (g : Nat) (f : Nat → Nat) : World :=
  (((((((w.setCell ⟨g, 0, none⟩ (.int .u64 (f 0 : Nat))).setCell ⟨g, 1, none⟩ (.int .u64 (f 1 : Nat))).setCell ⟨g, 2, none⟩ (.int .u64 (f 2 : Nat))).setCell ⟨g, 3, none⟩ (.int .u64 (f 3 : Nat))).setCell ⟨g, 4, none⟩ (.int .u64 (f 4 : Nat))).setCell ⟨g, 5, none⟩ (.int .u64 (f 5 : Nat))).setCell ⟨g, 6, none⟩ (.int .u64 (f 6 : Nat))).setCell ⟨g, 7, none⟩ (.int .u64 (f 7 : Nat))
theorem SetB.put8 {w : World} {g N : Nat} (h : SetB w g N) (M : Nat) : SetB (put8 w g (wd M)) g M :=
  (Row.set_ (Row.set_ (Row.set_ (Row.set_ (Row.set_ (Row.set_ (Row.set_ (Row.set_ h 0 _) 1 _) 2 _) 3 _) 4 _) 5 _) 6 _) 7 (.int .u64 (wd M 7 : Nat)))
theorem below_put8 {B g : Nat} {w w' : World} (h : Below B w w') (hg : B ≤ g) (f : Nat → Nat) : Below B w (put8 w' g f) :=
  (((((((h.setCell (p := ⟨g, 0, none⟩) hg _).setCell (p := ⟨g, 1, none⟩) hg _).setCell (p := ⟨g, 2, none⟩) hg _).setCell (p := ⟨g, 3, none⟩) hg _).setCell (p := ⟨g, 4, none⟩) hg _).setCell (p := ⟨g, 5, none⟩) hg _).setCell (p := ⟨g, 6, none⟩) hg _).setCell (p := ⟨g, 7, none⟩) hg _

/-- What the loop keeps. -/
def OfRel (w : World) (zs : List Int) (n : Nat) (i : Value) (wr : World) : Prop :=
  ∃ k : Nat, k ≤ n ∧ i = .int .i64 k ∧ SetB wr w.heap.size 0 ∧ SetB wr (w.heap.size + 1) (bs (zs.take k)) ∧ Below w.heap.size w wr

set_option maxHeartbeats 400000 in
theorem of_any (A : Option Addr) (n c : Nat) (zs : List Int) (B : Nat) (w : World) (hn : Hid (zs.length = n)) (hm : n ≤ 9223372036854775807) (hs : Hid (Sees w B A (cellsI zs))) (hB : B ≤ w.heap.size) (hz : Hid (∀ z ∈ zs, -9223372036854775808 ≤ z ∧ z ≤ 9223372036854775807)) :
    Calls Tryd.prog 48 #[.slice A n c] w fun e w' => e = .returned (sv (wd (bs zs))) ∧ Below w.heap.size w w' := by
  go_enter Tryd.func48, Tryd.ntmps48
  go_wp2_with fail
  go_loopw [8] (fun i wr => Hid (OfRel w zs n i wr)) (fun i _ => n - (intOf i).toNat)
  case atStart => exact hide ⟨0, by omega, rfl, Row.alloc (SetB.new w) _, Row.at_ (SetB.new _) (by simp), below2 _ _ _⟩
  case round =>
    obtain ⟨k, hk, rfl, hr0, hr1, hb⟩ := hrel.out
    have HR0 := hide hr0
    have HR1 := hide hr1
    have HB := hide hb
    by_cases hlt : k < n
    · have hl : k < zs.length := by have := hn.out; omega
      obtain ⟨b, off, rfl, hbB, hc⟩ := int_at hs.out hl
      have hc' := (hb.cell (p := ⟨b, off + k, none⟩) (by show b < _; omega)).trans hc
      have hzk := hz.out _ (List.getElem_mem hl)
      have HT := hide (take_snoc hl)
      generalize zs[k] = x at hc hc' hzk HT
      have x0 := hzk.1
      have x1 := hzk.2
      clear hrel hr0 hr1 hb hc hzk hl
      go_wp2_with fail
      refine (add_any (w.heap.size + 1) (bs (zs.take k)) x wr HR1 x0 x1).mono ?_
      rintro e w' ⟨rfl, hS, hG⟩
      have R : Hid (OfRel w zs n (.int .i64 ((k : Int) + 1)) w') := hide ⟨k + 1, by omega, by go_num, Row.grown HR0.out hG (by intro h; injection h with h; omega), by rw [HT.out, bs_snoc]; exact hS, below_turned HB.out hG (by omega) HB.out.size⟩
      clear hS hG hc'
      go_wp2_with fail
      go_roundw
      case rel => exact R
      case measure => simp [intOf]; omega
    · obtain rfl : k = n := by omega
      have hT := hide (show bs (zs.take k) = bs zs by rw [List.take_of_length_le (by have := hn.out; omega)])
      rw [hT.out] at hr1
      obtain ⟨c0, c1, c2, c3, c4, c5, c6, c7⟩ := hr1.cells
      have z0 := Row.free hr0 0
      have z1 := Row.free hr0 1
      have z2 := Row.free hr0 2
      have z3 := Row.free hr0 3
      have z4 := Row.free hr0 4
      have z5 := Row.free hr0 5
      have z6 := Row.free hr0 6
      have z7 := Row.free hr0 7
      obtain ⟨d0, d1, d2, d3, d4, d5, d6, d7⟩ := hr0.cells
      clear hrel hr0 hr1 hb
      go_wp2_with fail
      clear c0 c1 c2 c3 c4 c5 c6 c7 d0 d1 d2 d3 d4 d5 d6 d7 z0 z1 z2 z3 z4 z5 z6 z7
      have hS := SetB.put8 HR0.out (bs zs)
      have hBl := hide (below_put8 HB.out (Nat.le_refl _) (wd (bs zs)))
      show bodyPost _ _ _ _ _ (put8 wr w.heap.size (wd (bs zs)))
      generalize put8 wr w.heap.size (wd (bs zs)) = W at hS hBl ⊢
      obtain ⟨c0, c1, c2, c3, c4, c5, c6, c7⟩ := hS.cells
      clear hS
      exact bodyPost_ret (v := sv (wd (bs zs))) (by simp [results, Tryd.results48, go_sem, c0, c1, c2, c3, c4, c5, c6, c7]) rfl ⟨rfl, hBl.out⟩
end Go.Proofs.YtjbgepjdohfhkaaDoor
end

section
/-
  The contract of a method of bitset.set[int] on whole sets: count. Conditions: those of the types.
-/
namespace Go.Proofs.YtjbgepjdohfhkaaDoor
open Go.RowKit
set_option maxHeartbeats 400000 in
theorem count_any (g N : Nat) (w : World) (h : Hid (SetB w g N)) : Calls Tryd.prog 68 #[.pointer (some ⟨g, 0, none⟩)] w fun e w' => e = .returned (.int .i64 (cnt N 8 : Nat)) ∧ w = w' := by
  obtain ⟨c0, c1, c2, c3, c4, c5, c6, c7⟩ := h.out.cells
  go_enter Tryd.func68, Tryd.ntmps68
  go_wp2_with fail
  clear c0 c1 c2 c3 c4 c5 c6 c7
  go_loop [3, 10] (fun n i => ∃ k : Nat, k ≤ 8 ∧ i = .int .i64 k ∧ n = .int .i64 (cnt N k : Nat)) (fun _ i => 8 - (intOf i).toNat)
  case atStart => exact ⟨0, Nat.zero_le _, rfl, rfl⟩
  case round =>
    obtain ⟨k, hk, rfl, rfl⟩ := hrel
    have hcl := cnt_le N k
    by_cases hlt : k < 8
    · have hi := index8 (wd N) hlt
      have hd : decide ((k : Int) < 8) = true := decide_eq_true (by omega)
      have ol := ones_lt (wd N k)
      go_wp2_with fail
      refine (ones_any (wd N k) w (wd_lt N k)).mono ?_
      rintro e w' ⟨rfl, rfl⟩
      clear hi
      go_wp2_with fail
      go_round
      case rel => exact ⟨k + 1, by omega, by go_num, by show _ = Value.int .i64 ((cnt N k + ones (wd N k) : Nat) : Int); go_num⟩
      case measure => simp [intOf]; omega
    · obtain rfl : k = 8 := by omega
      go_wp2_with fail
      go_ret
      exact ⟨rfl, rfl⟩

end Go.Proofs.YtjbgepjdohfhkaaDoor
end
