import Derived.Test.YtafegghdhdgioabMNscn
import Derived.Test.YtafegghdhdgioabMNovm
set_option linter.unusedVariables false
set_option linter.unusedSimpArgs false
section
/-
  MachrunOverflowsAtEntry's law, walked. No condition: every input that the row speaks of.
-/
namespace Go.Proofs.Ytafegghdhdgioab
open Go.RowKit

/-- How the run ends, in the law's words. -/
def OvEnd (x y n : Nat) (k : Int) (s : Nat) : Prop :=
  (n - n % 16 < x ∧ k = 5 ∧ s = 0) ∨ (¬ n - n % 16 < x ∧ n - n % 16 < x + y ∧ k = 5 ∧ s = 1) ∨ (¬ n - n % 16 < x ∧ ¬ n - n % 16 < x + y ∧ k = 0 ∧ s = 3)
theorem ov_end (x y n : Nat) : OvEnd x y n (runT 16 (Fo x y) [] 10 n).c.kind (runT 16 (Fo x y) [] 10 n).c.steps := by
  obtain ⟨h1, h2, h3⟩ := ov_run x y n
  by_cases c1 : n - n % 16 < x
  · exact .inl ⟨c1, h1 c1⟩
  · by_cases c2 : n - n % 16 < x + y
    · exact .inr (.inl ⟨c1, c2, h2 c1 c2⟩)
    · exact .inr (.inr ⟨c1, c2, h3 c1 c2⟩)
set_option maxRecDepth 100000 in
set_option maxHeartbeats 8000000 in
theorem ovl_walk (a b s : Int) (w : World) (a0 : 0 ≤ a ∧ a ≤ 255) (b0 : 0 ≤ b ∧ b ≤ 255) (s0 : 0 ≤ s ∧ s ≤ 65535) :
    Calls Try.prog 4 #[.int .u8 a, .int .u8 b, .int .u16 s] w fun e w' => e = .returned (.bool true) ∧ Below w.heap.size w w' := by
  obtain ⟨p, rfl⟩ : ∃ k : Nat, a = (k : Int) := ⟨a.toNat, by omega⟩
  obtain ⟨q, rfl⟩ : ∃ k : Nat, b = (k : Int) := ⟨b.toNat, by omega⟩
  obtain ⟨r, rfl⟩ : ∃ k : Nat, s = (k : Int) := ⟨s.toNat, by omega⟩
  go_enter Try.func4, Try.ntmps4
  go_wp2_with fail
  refine (awake12_any w).mono ?_
  rintro e w1 ⟨rfl, hb1⟩
  have HB1 := hide hb1
  clear hb1
  obtain ⟨g, hg⟩ : ∃ g, w1.heap.size = g := ⟨_, rfl⟩
  obtain ⟨i, hpi⟩ : ∃ i, p % 20 = i := ⟨_, rfl⟩
  obtain ⟨j, hqj⟩ : ∃ j, q % 20 = j := ⟨_, rfl⟩
  obtain ⟨n, hrn⟩ : ∃ n, r % 700 = n := ⟨_, rfl⟩
  have hi2 : i < 20 := by omega
  have hj2 : j < 20 := by omega
  have hn2 : n < 700 := by omega
  obtain ⟨x, hx⟩ : ∃ x, 16 * i = x := ⟨_, rfl⟩
  obtain ⟨y, hy⟩ : ∃ y, 16 * j = y := ⟨_, rfl⟩
  have hE := hide (fo_right hi2 hj2)
  rw [hx, hy] at hE
  have ex : (16 * ((p : Int) % 20)) = (x : Int) := by omega
  have ey : (16 * ((q : Int) % 20)) = (y : Int) := by omega
  have en : ((r : Int) % 700) = (n : Int) := by omega
  have hov := ov_end x y n
  obtain ⟨W, hW⟩ : ∃ V, ((((w1.alloc (.cells #[.int .i64 22, .int .i64 1, .int .i64 0, .int .i64 0, .int .u64 0, .int .i64 23, .int .i64 0, .int .i64 0, .int .i64 0, .int .u64 0] 44)).alloc (.cells #[.int .i64 23, .int .i64 0, .int .i64 0, .int .i64 0, .int .u64 0] 44)).alloc (.cells #[.int .i64 0, .int .i64 (x : Int), .slice (some ⟨g, 0, none⟩) 2 2, .int .i64 0, .int .i64 (y : Int), .slice (some ⟨g + 1, 0, none⟩) 1 1] 47)).alloc (.cells #[.int .i64 16, .slice (some ⟨g + 1 + 1, 0, none⟩) 2 2] 26)) = V := ⟨_, rfl⟩
  have HW := hide hW
  have hb := hide (show Below w1.heap.size w1 W by rw [← hW]; exact (below2 w1 _ _).trans ((below2 _ _ _).mono (by simp; omega)))
  have r0 := hide (show Row W g 44 (icells [⟨22, 1, 0, 0, 0⟩, ⟨23, 0, 0, 0, 0⟩]) by rw [← hW, ← hg]; exact (((Row.new w1 _ (icells [⟨22, 1, 0, 0, 0⟩, ⟨23, 0, 0, 0, 0⟩])).alloc _).alloc _).alloc _)
  have r1 := hide (show Row W (g + 1) 44 (icells [⟨23, 0, 0, 0, 0⟩]) by rw [← hW, ← hg]; exact (((Row.new _ 44 (icells [⟨23, 0, 0, 0, 0⟩])).alloc _).alloc _).at_ (by simp))
  have r2 := hide (show Row W (g + 1 + 1) 47 (fdcells [⟨0, (x : Int), some ⟨g, 0, none⟩, 2, 2⟩, ⟨0, (y : Int), some ⟨g + 1, 0, none⟩, 1, 1⟩]) by rw [← hW]; exact ((Row.new _ 47 (fdcells [⟨0, (x : Int), some ⟨g, 0, none⟩, 2, 2⟩, ⟨0, (y : Int), some ⟨g + 1, 0, none⟩, 1, 1⟩])).alloc _).at_ (by simp [hg]))
  have r3 := hide (show Row W (g + 1 + 1 + 1) 26 [.int .i64 16, .slice (some ⟨g + 1 + 1, 0, none⟩) 2 2] by rw [← hW]; exact (Row.new _ 26 [.int .i64 16, .slice (some ⟨g + 1 + 1, 0, none⟩) 2 2]).at_ (by simp [hg]))
  have HT := hide (show TgAt W 0 W.heap.size (some ⟨g + 1 + 1, 0, none⟩) 2 2 [⟨0, (x : Int), some ⟨g, 0, none⟩, 2, 2⟩, ⟨0, (y : Int), some ⟨g + 1, 0, none⟩, 1, 1⟩] (Fo x y) from
    ⟨rfl, ⟨(fun e => by cases e), Nat.le_refl _, by omega⟩, Far.zero _, fun k u hu => ⟨g + 1 + 1, 0, rfl, r2.out.lt, by rw [Nat.zero_add]; exact r2.out.cell hu⟩, ⟨rfl, fun j h f h1 h2 => by
      rcases j with _ | _ | j
      · injection h1 with h1
        injection h2 with h2
        subst h1
        subst h2
        exact ⟨rfl, rfl, rfl, ⟨(fun e => by cases e), Nat.le_refl _, show (2 : Nat) ≤ 8796093022208 by omega⟩, Far.zero _, fun k u hu => ⟨g, 0, rfl, r0.out.lt, by rw [Nat.zero_add]; exact r0.out.cell hu⟩⟩
      · injection h1 with h1
        injection h2 with h2
        subst h1
        subst h2
        exact ⟨rfl, rfl, rfl, ⟨(fun e => by cases e), Nat.le_refl _, show (1 : Nat) ≤ 8796093022208 by omega⟩, Far.zero _, fun k u hu => ⟨g + 1, 0, rfl, r1.out.lt, by rw [Nat.zero_add]; exact r1.out.cell hu⟩⟩
      · simp at h1⟩⟩)
  have cc := tout_any 16 (Fo x y) [] ((10 : Nat) : Int) ((n : Nat) : Int) none 0 0 W (hide (fo_imm x y)) (hide ⟨none, 0, 0, rfl, rfl, Nat.le_refl _, by omega, fun _ => rfl, Sees.nil_ _ _ _⟩) (hide (fun v hv => by cases hv)) HT
  unfold OutT at cc
  rw [runTS_ok hE.out [] (by omega) (by omega), runTE_ok hE.out (by omega) (by omega), show ((10 : Nat) : Int) = 10 from rfl, show ((16 : Int)).toNat = 16 from rfl] at cc
  clear hW hE HT r0 r1 r2
  go_upto_region 6 with (fail)
  try rw [ex]
  try rw [ey]
  try rw [en]
  try rw [hg]
  rw [HW.out]
  clear HW
  have z0 := r3.out.cell (k := 0) rfl
  have z1 := r3.out.cell (k := 1) rfl
  go_wp2_with fail
  refine cc.mono ?_
  rintro e w2 ⟨vt, rfl, hto, hb2⟩
  obtain ⟨At, ct, rfl⟩ := own_shape hto
  clear hto cc r3 z0 z1
  generalize (runT 16 (Fo x y) [] 10 n).c.trace.length = nt
  obtain ⟨c, hc⟩ : ∃ c, (runT 16 (Fo x y) [] 10 n).c = c := ⟨_, rfl⟩
  rw [hc] at hov ⊢
  have HB := hide ((HB1.out.trans (hb.out.mono HB1.out.size)).trans (hb2.mono (Nat.le_trans HB1.out.size hb.out.size)))
  clear hb hb2 hc HB1
  have x1 : x ≤ 304 := by omega
  have y1 : y ≤ 304 := by omega
  rcases hov with ⟨c1, hk, hst⟩ | ⟨c1, c2, hk, hst⟩ | ⟨c1, c2, hk, hst⟩
  · have hsi : (c.steps : Int) = 0 := by omega
    have HB2 := hide (HB.out.alloc HB.out.size (.cells #[.int .i64 5, .int .u64 c.code, .int .u64 (lo c.res), .int .u64 (hi c.res), .slice At nt ct, .int .i64 0] 37))
    unfold tocells
    rw [hk, hsi]
    clear hk hst hsi HB
    have d1 : decide ((n : Int) - (n : Int) % 16 < (x : Int)) = true := by simp; omega
    go_wp2_with fail
    go_ret
    exact ⟨rfl, HB2.out⟩
  · have hsi : (c.steps : Int) = 1 := by omega
    have HB2 := hide (HB.out.alloc HB.out.size (.cells #[.int .i64 5, .int .u64 c.code, .int .u64 (lo c.res), .int .u64 (hi c.res), .slice At nt ct, .int .i64 1] 37))
    unfold tocells
    rw [hk, hsi]
    clear hk hst hsi HB
    have d1 : decide ((n : Int) - (n : Int) % 16 < (x : Int)) = false := by simp; omega
    have d2 : decide ((n : Int) - (n : Int) % 16 < (x : Int) + (y : Int)) = true := by simp; omega
    go_wp2_with fail
    go_ret
    exact ⟨rfl, HB2.out⟩
  · have hsi : (c.steps : Int) = 3 := by omega
    have HB2 := hide (HB.out.alloc HB.out.size (.cells #[.int .i64 0, .int .u64 c.code, .int .u64 (lo c.res), .int .u64 (hi c.res), .slice At nt ct, .int .i64 3] 37))
    unfold tocells
    rw [hk, hsi]
    clear hk hst hsi HB
    have d1 : decide ((n : Int) - (n : Int) % 16 < (x : Int)) = false := by simp; omega
    have d2 : decide ((n : Int) - (n : Int) % 16 < (x : Int) + (y : Int)) = false := by simp; omega
    go_wp2_with fail
    go_ret
    exact ⟨rfl, HB2.out⟩
end Go.Proofs.Ytafegghdhdgioab
end
