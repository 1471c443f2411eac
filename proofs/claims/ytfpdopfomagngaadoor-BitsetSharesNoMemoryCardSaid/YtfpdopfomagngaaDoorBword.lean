/-
  The contracts of the methods of bitset.set[int] on whole sets: union, meet, minus, count. Conditions: those of the types.
-/
import Derived.Test.YtfpdopfomagngaaDoorBset
namespace Go.Proofs.YtfpdopfomagngaaDoor
open Go.RowKit

/-- A set by value. -/
abbrev sv (f : Nat → Nat) : Value := .agg #[.int .u64 (f 0 : Nat), .int .u64 (f 1 : Nat), .int .u64 (f 2 : Nat), .int .u64 (f 3 : Nat), .int .u64 (f 4 : Nat), .int .u64 (f 5 : Nat), .int .u64 (f 6 : Nat), .int .u64 (f 7 : Nat)]
theorem index8 (f : Nat → Nat) {k : Nat} (hk : k < 8) (w : World) : (Instr.index 40 (sv f) (.int .i64 (k : Nat))).run Tryd.prog w = .ok (.int .u64 (f k : Nat)) w := by
  rcases lt8 hk with rfl | rfl | rfl | rfl | rfl | rfl | rfl | rfl <;> kernel_rfl
theorem SetB.cells {w : World} {g N : Nat} (h : SetB w g N) : w.cell? ⟨g, 0, none⟩ = some (.int .u64 (wd N 0 : Nat)) ∧ w.cell? ⟨g, 1, none⟩ = some (.int .u64 (wd N 1 : Nat)) ∧ w.cell? ⟨g, 2, none⟩ = some (.int .u64 (wd N 2 : Nat)) ∧ w.cell? ⟨g, 3, none⟩ = some (.int .u64 (wd N 3 : Nat)) ∧
    w.cell? ⟨g, 4, none⟩ = some (.int .u64 (wd N 4 : Nat)) ∧ w.cell? ⟨g, 5, none⟩ = some (.int .u64 (wd N 5 : Nat)) ∧ w.cell? ⟨g, 6, none⟩ = some (.int .u64 (wd N 6 : Nat)) ∧ w.cell? ⟨g, 7, none⟩ = some (.int .u64 (wd N 7 : Nat)) :=
  ⟨Row.cell h rfl, Row.cell h rfl, Row.cell h rfl, Row.cell h rfl, Row.cell h rfl, Row.cell h rfl, Row.cell h rfl, Row.cell h rfl⟩

/-- How many, in the first k words. -/
def cnt (N : Nat) : Nat → Nat
  | 0 => 0
  | k + 1 => cnt N k + ones (wd N k)
theorem cnt_le (N k : Nat) : cnt N k ≤ 127 * k := by
  induction k with
  | zero => exact Nat.le_refl _
  | succ k ih =>
    have := ones_lt (wd N k)
    show cnt N k + ones (wd N k) ≤ _
    omega
theorem cnt_zero {N : Nat} (h : els N = []) (k : Nat) (hk : k ≤ 8) : cnt N k = 0 := by
  induction k with
  | zero => rfl
  | succ k ih =>
    show cnt N k + ones (wd N k) = 0
    rw [ih (by omega), els_nil h k (by omega), ones_zero]
theorem cnt_eq {N : Nat} (h : cnt N 8 = 0) : els N = [] := by
  have key : ∀ k, k ≤ 8 → cnt N k = 0 := by
    intro k hk
    have : ∀ d, cnt N k ≤ cnt N (k + d) := by
      intro d
      induction d with
      | zero => exact Nat.le_refl _
      | succ d ih => exact Nat.le_trans ih (Nat.le_add_right _ _)
    have := this (8 - k)
    rw [show k + (8 - k) = 8 by omega, h] at this
    omega
  refine wd_all fun i hi => ones_eq (wd_lt N i) ?_
  have h1 := key (i + 1) (by omega)
  have h2 : cnt N (i + 1) = cnt N i + ones (wd N i) := rfl
  omega

set_option maxHeartbeats 400000 in
theorem count_any (g N : Nat) (w : World) (h : Hid (SetB w g N)) : Calls Tryd.prog 43 #[.pointer (some ⟨g, 0, none⟩)] w fun e w' => e = .returned (.int .i64 (cnt N 8 : Nat)) ∧ w = w' := by
  obtain ⟨c0, c1, c2, c3, c4, c5, c6, c7⟩ := h.out.cells
  go_enter Tryd.func43, Tryd.ntmps43
  go_wp2_with fail
  clear c0 c1 c2 c3 c4 c5 c6 c7
  go_loop [3, 10] (fun n i => ∃ k : Nat, k ≤ 8 ∧ i = .int .i64 k ∧ n = .int .i64 (cnt N k : Nat)) (fun _ i => 8 - (intOf i).toNat)
  case atStart => exact ⟨0, Nat.zero_le _, rfl, rfl⟩
  case round =>
    obtain ⟨k, hk, rfl, rfl⟩ := hrel
    have hcl := cnt_le N k
    by_cases hlt : k < 8
    · have hi := index8 (wd N) hlt
      have hd : decide ((k : Int) < 8) = true := decide_eq_true (by omega)
      have ol := ones_lt (wd N k)
      go_wp2_with fail
      refine (ones_any (wd N k) w (wd_lt N k)).mono ?_
      rintro e w' ⟨rfl, rfl⟩
      clear hi
      go_wp2_with fail
      go_round
      case rel => exact ⟨k + 1, by omega, by go_num, by show _ = Value.int .i64 ((cnt N k + ones (wd N k) : Nat) : Int); go_num⟩
      case measure => simp [intOf]; omega
    · obtain rfl : k = 8 := by omega
      go_wp2_with fail
      go_ret
      exact ⟨rfl, rfl⟩

/-- The first k words turned, by an operation on words. -/
def mixF (op : Nat → Nat → Nat) (N M k : Nat) : Nat → Nat := fun i => if i < k then op (wd N i) (wd M i) else wd N i
theorem mix_start (op : Nat → Nat → Nat) (N M : Nat) : w8 (mixF op N M 0) = w8 (wd N) := w8_congr fun i _ => by simp [mixF]
theorem mix_end (op : Nat → Nat → Nat) (N M : Nat) : w8 (mixF op N M 8) = w8 fun i => op (wd N i) (wd M i) := w8_congr fun i hi => by simp [mixF, hi]
theorem mix_at (op : Nat → Nat → Nat) (N M k : Nat) : mixF op N M k k = wd N k := by simp [mixF]
theorem mix_set (op : Nat → Nat → Nat) (N M : Nat) {k : Nat} (hk : k < 8) : (w8 (mixF op N M k)).set k (.int .u64 (op (wd N k) (wd M k) : Nat)) = w8 (mixF op N M (k + 1)) := by
  rw [w8_set _ hk]
  apply w8_congr
  intro i hi
  unfold mixF
  by_cases h : i = k
  · subst h; simp
  · rw [if_neg h]
    by_cases h' : i < k
    · rw [if_pos h', if_pos (by omega)]
    · rw [if_neg h', if_neg (by omega)]

/-- What the loops on words keep. -/
def MixRel (op : Nat → Nat → Nat) (g N M : Nat) (W : World) (i : Value) (wr : World) : Prop :=
  ∃ k : Nat, k ≤ 8 ∧ i = .int .i64 k ∧ Row wr g 42 (w8 (mixF op N M k)) ∧ W.grownBy wr (some g)
theorem MixRel.next {op : Nat → Nat → Nat} {g N M k : Nat} {W wr : World} {v : Value} (hk : k < 8) (hr : Hid (Row wr g 42 (w8 (mixF op N M k)))) (K : Hid ((w8 (mixF op N M k)).set k v = w8 (mixF op N M (k + 1)))) (hg : Hid (W.grownBy wr (some g))) :
    MixRel op g N M W (.int .i64 ((k : Int) + 1)) (wr.setCell ⟨g, k, none⟩ v).drew := by
  refine ⟨k + 1, by omega, by go_num, ?_, grown_drawn (grown_put hg.out k v) 1⟩
  have := (Row.set_ hr.out k v).drew
  rw [K.out] at this
  exact this

set_option maxHeartbeats 400000 in
theorem munion_any (g N M : Nat) (w : World) (h : Hid (SetB w g N)) : Calls Tryd.prog 40 #[.pointer (some ⟨g, 0, none⟩), sv (wd M)] w (WritePost g (N ||| M) w) := by
  go_enter Tryd.func40, Tryd.ntmps40
  go_wp2_with fail
  go_loopw [8] (fun i wr => Hid (MixRel (· ||| ·) g N M w i wr)) (fun i _ => 8 - (intOf i).toNat)
  case atStart => exact hide ⟨0, by omega, rfl, by rw [mix_start]; exact Row.alloc h.out _, World.grownBy_alloc _ _ _⟩
  case round =>
    obtain ⟨k, hk, rfl, hr, hg⟩ := hrel.out
    have HR := hide hr
    have HG := hide hg
    by_cases hlt : k < 8
    · have hi := index8 (wd M) hlt
      have hd : decide ((k : Int) < 8) = true := decide_eq_true (by omega)
      have c := Row.cell hr (w8_at (mixF (· ||| ·) N M k) hlt)
      rw [mix_at] at c
      have z := Row.free hr k
      have e := bits_or_u64_nat _ _ (wd_lt N k) (wd_lt M k)
      have K := hide (show (w8 (mixF (· ||| ·) N M k)).set k (.int .u64 ((wd N k ||| wd M k : Nat) : Int)) = w8 (mixF (· ||| ·) N M (k + 1)) from mix_set (· ||| ·) N M hlt)
      have hk0 : (0 : Int) ≤ (k : Int) := by omega
      have hk8 : (k : Int) < 8 := by omega
      generalize wd N k ||| wd M k = y at e K
      clear hrel hr hg
      go_wp2_with fail
      go_region
      all_goals
        go_wp2_with fail
        go_roundw
        case rel => exact hide (MixRel.next hlt HR K HG)
        case measure => simp [intOf]; omega
    · obtain rfl : k = 8 := by omega
      clear hr hg hrel
      go_wp2_with fail
      go_end0
      refine ⟨rfl, ?_, HG.out⟩
      have := HR.out
      rw [mix_end] at this
      show Row _ _ _ _
      rw [w8_congr (g := fun i => wd N i ||| wd M i) fun i _ => wd_or N M i]
      exact this

set_option maxHeartbeats 400000 in
theorem mmeet_any (g N M : Nat) (w : World) (h : Hid (SetB w g N)) : Calls Tryd.prog 41 #[.pointer (some ⟨g, 0, none⟩), sv (wd M)] w (WritePost g (N &&& M) w) := by
  go_enter Tryd.func41, Tryd.ntmps41
  go_wp2_with fail
  go_loopw [8] (fun i wr => Hid (MixRel (· &&& ·) g N M w i wr)) (fun i _ => 8 - (intOf i).toNat)
  case atStart => exact hide ⟨0, by omega, rfl, by rw [mix_start]; exact Row.alloc h.out _, World.grownBy_alloc _ _ _⟩
  case round =>
    obtain ⟨k, hk, rfl, hr, hg⟩ := hrel.out
    have HR := hide hr
    have HG := hide hg
    by_cases hlt : k < 8
    · have hi := index8 (wd M) hlt
      have hd : decide ((k : Int) < 8) = true := decide_eq_true (by omega)
      have c := Row.cell hr (w8_at (mixF (· &&& ·) N M k) hlt)
      rw [mix_at] at c
      have z := Row.free hr k
      have e := bits_and_u64_nat _ _ (wd_lt N k) (wd_lt M k)
      have K := hide (show (w8 (mixF (· &&& ·) N M k)).set k (.int .u64 ((wd N k &&& wd M k : Nat) : Int)) = w8 (mixF (· &&& ·) N M (k + 1)) from mix_set (· &&& ·) N M hlt)
      have hk0 : (0 : Int) ≤ (k : Int) := by omega
      have hk8 : (k : Int) < 8 := by omega
      generalize wd N k &&& wd M k = y at e K
      clear hrel hr hg
      go_wp2_with fail
      go_region
      all_goals
        go_wp2_with fail
        go_roundw
        case rel => exact hide (MixRel.next hlt HR K HG)
        case measure => simp [intOf]; omega
    · obtain rfl : k = 8 := by omega
      clear hr hg hrel
      go_wp2_with fail
      go_end0
      refine ⟨rfl, ?_, HG.out⟩
      have := HR.out
      rw [mix_end] at this
      show Row _ _ _ _
      rw [w8_congr (g := fun i => wd N i &&& wd M i) fun i _ => wd_and N M i]
      exact this

set_option maxHeartbeats 400000 in
theorem mminus_any (g N M : Nat) (w : World) (h : Hid (SetB w g N)) : Calls Tryd.prog 42 #[.pointer (some ⟨g, 0, none⟩), sv (wd M)] w (WritePost g (diff N M) w) := by
  go_enter Tryd.func42, Tryd.ntmps42
  go_wp2_with fail
  go_loopw [8] (fun i wr => Hid (MixRel diff g N M w i wr)) (fun i _ => 8 - (intOf i).toNat)
  case atStart => exact hide ⟨0, by omega, rfl, by rw [mix_start]; exact Row.alloc h.out _, World.grownBy_alloc _ _ _⟩
  case round =>
    obtain ⟨k, hk, rfl, hr, hg⟩ := hrel.out
    have HR := hide hr
    have HG := hide hg
    by_cases hlt : k < 8
    · have hi := index8 (wd M) hlt
      have hd : decide ((k : Int) < 8) = true := decide_eq_true (by omega)
      have c := Row.cell hr (w8_at (mixF diff N M k) hlt)
      rw [mix_at] at c
      have z := Row.free hr k
      have e := u64_diff_nat _ _ (wd_lt N k) (wd_lt M k)
      have K := hide (show (w8 (mixF diff N M k)).set k (.int .u64 ((diff (wd N k) (wd M k) : Nat) : Int)) = w8 (mixF diff N M (k + 1)) from mix_set diff N M hlt)
      have hk0 : (0 : Int) ≤ (k : Int) := by omega
      have hk8 : (k : Int) < 8 := by omega
      generalize diff (wd N k) (wd M k) = y at e K
      clear hrel hr hg
      go_wp2_with fail
      go_region
      all_goals
        go_wp2_with fail
        go_roundw
        case rel => exact hide (MixRel.next hlt HR K HG)
        case measure => simp [intOf]; omega
    · obtain rfl : k = 8 := by omega
      clear hr hg hrel
      go_wp2_with fail
      go_end0
      refine ⟨rfl, ?_, HG.out⟩
      have := HR.out
      rw [mix_end] at this
      show Row _ _ _ _
      rw [w8_congr (g := fun i => diff (wd N i) (wd M i)) fun i _ => wd_diff N M i]
      exact this

end Go.Proofs.YtfpdopfomagngaaDoor
