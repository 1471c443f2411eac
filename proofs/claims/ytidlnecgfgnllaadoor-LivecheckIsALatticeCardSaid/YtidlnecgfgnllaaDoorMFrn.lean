import Derived.Test.YtidlnecgfgnllaaDoorMBwmi
import Derived.Test.YtidlnecgfgnllaaDoorMOwr
import Derived.Deep.DeepCutAuto
set_option linter.unusedVariables false
set_option linter.unusedSimpArgs false
section
/-
  The contract of the reference's Next (chapter 13). Conditions: those of the types.
-/
namespace Go.Proofs.YtidlnecgfgnllaaDoor
open Go.RowKit

theorem IntRel.lit {w wr w2 : World} (hb : Below w.heap.size w wr) (xs : List Int) (n : Nat) (hn : xs.length = n) (hm : n ≤ 1000) (cs : Array Value) (hc : cs = (cellsI xs).toArray) (h2 : wr.alloc (.cells cs 3) = w2) : IntRel w xs (.slice (some ⟨wr.heap.size, 0, none⟩) n n) w2 := by
  subst hn hc h2
  refine ⟨⟨by simp [cellsI], .inr ⟨wr.heap.size, xs.length, _, rfl, hb.size, heap_alloc_new wr _, Nat.le_refl _, by unfold maxLen; omega, by simp [cellsI], ?_⟩⟩, hb.alloc hb.size _⟩
  simp only [Nat.mul_one]
  rw [List.take_of_length_le (by simp [cellsI])]
set_option maxRecDepth 100000 in
set_option maxHeartbeats 2000000 in
theorem rnext_any {P : Int} {A1 : Option Addr} {n1 c1 : Nat} {A2 : Option Addr} {n2 c2 : Nat} {l : List Ins} (z : Int) (w : World) (hC : Hid (CdAt w A2 n2 l)) (hok : FlowOk l) :
    Calls Tryd.prog 49 #[fv P A1 n1 c1 A2 n2 c2, .int .i64 z] w (OutPost (toI (sucZ l z)) w) := by
  have hlen := hC.out.len
  have hn2 := hC.out.few
  obtain ⟨W1, hW1⟩ : ∃ W, w.alloc (.cells #[.int .i64 P, .slice A1 n1 c1, .slice A2 n2 c2] 30) = W := ⟨_, rfl⟩
  have R1 := hide (show Row W1 w.heap.size 30 [.int .i64 P, .slice A1 n1 c1, .slice A2 n2 c2] by rw [← hW1]; exact Row.new w _ _)
  have B1 := hide (show Below w.heap.size w W1 by rw [← hW1]; exact below1 w _)
  have HW1 := hide hW1
  have q2 := R1.out.cell (k := 2) rfl
  clear hW1
  by_cases hz : 0 ≤ z ∧ z < n2
  · obtain ⟨k, rfl⟩ : ∃ k : Nat, z = (k : Int) := ⟨z.toNat, by omega⟩
    have hk : k < l.length := by omega
    have hx := List.getElem?_eq_getElem hk
    obtain ⟨b, off, rfl, hb, x0, x1, x2, x3, x4⟩ := ins_at (hC.out.below B1.out).see hk
    rw [sucZ_nat, suc_some hx]
    generalize l[k] = x at hx x0 x1 x2 x3 x4
    have hj := hok.jmp k x hx
    have hbr := hok.brn k x hx
    obtain ⟨op, a, b', c, im⟩ := x
    dsimp only at x0 x1 x2 x3 x4 hj hbr
    have hk0 : (0 : Int) ≤ (k : Int) := by omega
    have hkn : (k : Int) < (n2 : Int) := by omega
    have hd0 : decide ((k : Int) < 0) = false := decide_eq_false (by omega)
    have hd2 : decide ((n2 : Int) ≤ (k : Int)) = false := decide_eq_false (by omega)
    have hwk : IntKind.i64.wrap ((k : Int) + 1) = (k : Int) + 1 := by rw [IntKind.wrap_i64]; omega
    obtain ⟨W2, hW2⟩ : ∃ W, W1.alloc (.cells #[.int .i64 op, .int .i64 a, .int .i64 b', .int .i64 c, .int .u64 im] 54) = W := ⟨_, rfl⟩
    have R2 := hide (show Row W2 W1.heap.size 54 [.int .i64 op, .int .i64 a, .int .i64 b', .int .i64 c, .int .u64 im] by rw [← hW2]; exact Row.new W1 _ _)
    have B2 := hide (show Below w.heap.size w W2 by rw [← hW2]; exact B1.out.alloc B1.out.size _)
    have HW2 := hide hW2
    obtain ⟨xs, hxs⟩ : ∃ xs, toI (sucX ⟨op, a, b', c, im⟩ k) = xs := ⟨_, rfl⟩
    rw [hxs]
    clear hz hlen hx hW2 hk hb
    by_cases h20 : op = 20
    · have hxs := hide (show xs = [a] by rw [← hxs, sucX_jump k h20]; have := hj h20; simp [toI]; omega)
      have FIN := hide (fun W h2 => IntRel.lit (w2 := W) B2.out xs 1 (by rw [hxs.out]; rfl) (by omega) #[.int .i64 a] (by rw [hxs.out]; rfl) h2)
      subst h20
      clear hj hbr hxs
      go_enter Tryd.func49, Tryd.ntmps49
      go_upto_region 1 with (fail)
      rw [HW1.out]
      go_upto_region 4 with (fail)
      rw [HW2.out]
      have z0 := R2.out.cell (k := 0) rfl
      have z1 := R2.out.cell (k := 1) rfl
      clear x0 x1 x2 x3 x4 q2
      go_wp2_with fail
      go_ret
      exact (FIN.out _ rfl).done
    · by_cases hte : op = 23 ∨ op = 24
      · have hxs := hide (show xs = [] by rw [← hxs, sucX_end k hte]; rfl)
        have FIN := hide (show OutPost xs w (.returned (.slice none 0 0)) W2 by rw [hxs.out]; exact (IntRel.start w W2 B2.out).done)
        clear hj hbr hxs h20
        rcases hte with rfl | rfl
        all_goals
          go_enter Tryd.func49, Tryd.ntmps49
          go_upto_region 1 with (fail)
          rw [HW1.out]
          go_upto_region 4 with (fail)
          rw [HW2.out]
          have z0 := R2.out.cell (k := 0) rfl
          have z1 := R2.out.cell (k := 1) rfl
          clear x0 x1 x2 x3 x4 q2
          go_wp2_with fail
          go_ret
          exact FIN.out
      · by_cases h21 : op = 21
        · have hb2 := hbr h21
          rcases Int.lt_trichotomy b' ((k : Int) + 1) with h | h | h
          · have hxs := hide (show xs = [b', (k : Int) + 1] by rw [← hxs, sucX_back h21 (show b'.toNat < k + 1 by omega)]; simp [toI]; omega)
            have FIN := hide (fun W h2 => IntRel.lit (w2 := W) B2.out xs 2 (by rw [hxs.out]; rfl) (by omega) #[.int .i64 b', .int .i64 ((k : Int) + 1)] (by rw [hxs.out]; rfl) h2)
            subst h21
            clear hj hbr hxs hb2 hte h20
            go_enter Tryd.func49, Tryd.ntmps49
            go_upto_region 1 with (fail)
            rw [HW1.out]
            go_upto_region 4 with (fail)
            rw [HW2.out]
            have z0 := R2.out.cell (k := 0) rfl
            have z2 := R2.out.cell (k := 2) rfl
            clear x0 x1 x2 x3 x4 q2
            go_wp2_with fail
            go_ret
            exact (FIN.out _ rfl).done
          · have hxs := hide (show xs = [(k : Int) + 1] by rw [← hxs, sucX_next h21 (show b'.toNat = k + 1 by omega)]; simp [toI])
            have FIN := hide (fun W h2 => IntRel.lit (w2 := W) B2.out xs 1 (by rw [hxs.out]; rfl) (by omega) #[.int .i64 ((k : Int) + 1)] (by rw [hxs.out]; rfl) h2)
            subst h21 h
            clear hj hbr hxs hb2 hte h20
            go_enter Tryd.func49, Tryd.ntmps49
            go_upto_region 1 with (fail)
            rw [HW1.out]
            go_upto_region 4 with (fail)
            rw [HW2.out]
            have z0 := R2.out.cell (k := 0) rfl
            have z2 := R2.out.cell (k := 2) rfl
            clear x0 x1 x2 x3 x4 q2
            go_wp2_with fail
            go_ret
            exact (FIN.out _ rfl).done
          · have hxs := hide (show xs = [(k : Int) + 1, b'] by rw [← hxs, sucX_fore h21 (show k + 1 < b'.toNat by omega)]; simp [toI]; omega)
            have FIN := hide (fun W h2 => IntRel.lit (w2 := W) B2.out xs 2 (by rw [hxs.out]; rfl) (by omega) #[.int .i64 ((k : Int) + 1), .int .i64 b'] (by rw [hxs.out]; rfl) h2)
            have hn : ¬ b' < (k : Int) + 1 := by omega
            subst h21
            clear hj hbr hxs hb2 hte h20
            go_enter Tryd.func49, Tryd.ntmps49
            go_upto_region 1 with (fail)
            rw [HW1.out]
            go_upto_region 4 with (fail)
            rw [HW2.out]
            have z0 := R2.out.cell (k := 0) rfl
            have z2 := R2.out.cell (k := 2) rfl
            clear x0 x1 x2 x3 x4 q2
            go_wp2_with fail
            go_ret
            exact (FIN.out _ rfl).done
        · have ht : termB op = false := by simp [termB, h20]; omega
          have hxs := hide (show xs = [(k : Int) + 1] by rw [← hxs, sucX_else k ht h21]; simp [toI])
          have FIN := hide (fun W h2 => IntRel.lit (w2 := W) B2.out xs 1 (by rw [hxs.out]; rfl) (by omega) #[.int .i64 ((k : Int) + 1)] (by rw [hxs.out]; rfl) h2)
          have e20 : (op == 20) = false := by rw [beq_eq_false_iff_ne]; exact h20
          have e21 : (op == 21) = false := by rw [beq_eq_false_iff_ne]; exact h21
          have e23 : (op == 23) = false := by rw [beq_eq_false_iff_ne]; exact fun e => hte (.inl e)
          have e24 : (op == 24) = false := by rw [beq_eq_false_iff_ne]; exact fun e => hte (.inr e)
          clear hj hbr hxs hte h20 h21 ht
          go_enter Tryd.func49, Tryd.ntmps49
          go_upto_region 1 with (fail)
          rw [HW1.out]
          go_upto_region 4 with (fail)
          rw [HW2.out]
          have z0 := R2.out.cell (k := 0) rfl
          have z2 := R2.out.cell (k := 2) rfl
          clear x0 x1 x2 x3 x4 q2
          go_wp2_with fail
          go_ret
          exact (FIN.out _ rfl).done
  · rw [sucZ_out (by omega)]
    have FIN := hide ((IntRel.start w W1 B1.out).done)
    by_cases h0 : z < 0
    · clear hz
      go_enter Tryd.func49, Tryd.ntmps49
      go_upto_region 1 with (fail)
      rw [HW1.out]
      go_wp2_with fail
      go_ret
      exact FIN.out
    · have h1 : (n2 : Int) ≤ z := by omega
      clear hz
      go_enter Tryd.func49, Tryd.ntmps49
      go_upto_region 1 with (fail)
      rw [HW1.out]
      go_wp2_with fail
      go_ret
      exact FIN.out
end Go.Proofs.YtidlnecgfgnllaaDoor
end
