import Derived.Test.YtidlnecgfgnllaaDoorMKit
import Derived.Test.YtidlnecgfgnllaaDoorMOwr
import Derived.Deep.DeepCutAuto
import Derived.Laws.Bits64b
set_option linter.unusedVariables false
set_option linter.unusedSimpArgs false
section
/-
  The contracts of package effect (chapter 15) and of its reference, but In and Renamed: which slots an instruction reads, which it writes. Conditions: those of the types.
-/
namespace Go.Proofs.YtidlnecgfgnllaaDoor
open Go.RowKit

theorem IntRel.lit1 {w wr w2 : World} (hb : Below w.heap.size w wr) (x : Int) (h2 : wr.alloc (.cells #[.int .i64 x] 3) = w2) : OutPost [x] w (.returned (.slice (some ⟨wr.heap.size, 0, none⟩) 1 1)) w2 := by
  subst h2
  refine ⟨_, _, rfl, ⟨by simp [cellsI], .inr ⟨wr.heap.size, 1, _, rfl, hb.size, heap_alloc_new wr _, Nat.le_refl _, by unfold maxLen; omega, by simp [cellsI], ?_⟩⟩, hb.alloc hb.size _⟩
  simp [cellsI]
theorem outpost_nil {w w2 : World} (hb : Below w.heap.size w w2) : OutPost [] w (.returned (.slice .none 0 0)) w2 := ⟨_, _, rfl, ⟨by simp [cellsI], .inl ⟨rfl, rfl⟩⟩, hb⟩
/-- What an operation is: it reads a slot, writes one, both, or none of it. -/
theorem op_cases (o : Int) : o = 15 ∨ o = 16 ∨ o = 17 ∨ (o ≠ 15 ∧ o ≠ 16 ∧ o ≠ 17) := by omega
theorem useB_no {o : Int} (h : o ≠ 15 ∧ o ≠ 16 ∧ o ≠ 17) : useB o = false := by simp [useB, h.1, h.2.2]
theorem defB_no {o : Int} (h : o ≠ 15 ∧ o ≠ 16 ∧ o ≠ 17) : defB o = false := by simp [defB, h.2.1, h.2.2]

theorem ereads_any (o : Int) (w : World) : Calls Tryd.prog 78 #[.int .i64 o] w fun e w' => e = .returned (.bool (useB o)) ∧ w' = w := by
  rcases op_cases o with rfl | rfl | rfl | h
  · go_enter Tryd.func78, Tryd.ntmps78
    go_wp2_with fail
    go_ret
    exact ⟨rfl, rfl⟩
  · go_enter Tryd.func78, Tryd.ntmps78
    go_wp2_with fail
    go_ret
    exact ⟨rfl, rfl⟩
  · go_enter Tryd.func78, Tryd.ntmps78
    go_wp2_with fail
    go_ret
    exact ⟨rfl, rfl⟩
  · have e1 : (o == 15) = false := by simpa using h.1
    have e2 : (o == 17) = false := by simpa using h.2.2
    have e3 := hide (useB_no h)
    clear h
    go_enter Tryd.func78, Tryd.ntmps78
    go_wp2_with fail
    go_ret
    exact ⟨ret_bool e3.out.symm, rfl⟩
theorem ewrites_any (o : Int) (w : World) : Calls Tryd.prog 75 #[.int .i64 o] w fun e w' => e = .returned (.bool (defB o)) ∧ w' = w := by
  rcases op_cases o with rfl | rfl | rfl | h
  · go_enter Tryd.func75, Tryd.ntmps75
    go_wp2_with fail
    go_ret
    exact ⟨rfl, rfl⟩
  · go_enter Tryd.func75, Tryd.ntmps75
    go_wp2_with fail
    go_ret
    exact ⟨rfl, rfl⟩
  · go_enter Tryd.func75, Tryd.ntmps75
    go_wp2_with fail
    go_ret
    exact ⟨rfl, rfl⟩
  · have e1 : (o == 16) = false := by simpa using h.2.1
    have e2 : (o == 17) = false := by simpa using h.2.2
    have e3 := hide (defB_no h)
    clear h
    go_enter Tryd.func75, Tryd.ntmps75
    go_wp2_with fail
    go_ret
    exact ⟨ret_bool e3.out.symm, rfl⟩

/-- The box of an instruction. -/
theorem ibox (w : World) (o a b c m : Int) : ∃ W, w.alloc (.cells #[.int .i64 o, .int .i64 a, .int .i64 b, .int .i64 c, .int .u64 m] 54) = W ∧ Row W w.heap.size 54 [.int .i64 o, .int .i64 a, .int .i64 b, .int .i64 c, .int .u64 m] ∧ Below w.heap.size w W := ⟨_, rfl, Row.new w _ _, below1 w _⟩

set_option maxHeartbeats 1000000 in
theorem euses_any (o a b c m : Int) (w : World) : Calls Tryd.prog 58 #[iv o a b c m] w (OutPost (usL o b) w) := by
  obtain ⟨W, hW, hR, hB⟩ := ibox w o a b c m
  have HW := hide hW
  have HB := hide hB
  have x0 := hR.cell (k := 0) rfl
  have x2 := hR.cell (k := 2) rfl
  have cr := ereads_any o W
  cases hu : useB o with
  | true =>
    rw [hu] at cr
    have e : usL o b = [b] := by unfold usL; rw [if_pos hu]
    rw [e]
    clear hW hR hB e hu
    go_enter Tryd.func58, Tryd.ntmps58
    go_upto_region 1 with (fail)
    rw [HW.out]
    go_wp2_with fail
    refine cr.mono ?_
    rintro e w' ⟨rfl, rfl⟩
    have FIN := hide (fun W2 h2 => IntRel.lit1 (w2 := W2) HB.out b h2)
    clear HW
    go_wp2_with fail
    go_ret
    exact FIN.out _ rfl
  | false =>
    rw [hu] at cr
    have e : usL o b = [] := by unfold usL; rw [hu]; rfl
    rw [e]
    clear hW hR hB e hu
    go_enter Tryd.func58, Tryd.ntmps58
    go_upto_region 1 with (fail)
    rw [HW.out]
    go_wp2_with fail
    refine cr.mono ?_
    rintro e w' ⟨rfl, rfl⟩
    clear HW
    go_wp2_with fail
    go_ret
    exact outpost_nil HB.out

/-- What Defines hands back. -/
def DefPost (o a : Int) (w : World) (e : Ending) (w' : World) : Prop := e = .returned (.tuple #[.int .i64 (dfI o a), .bool (defB o)]) ∧ Below w.heap.size w w'
theorem dfI_on {o a : Int} (h : defB o = true) : dfI o a = a := by unfold dfI; rw [if_pos h]
theorem dfI_off {o a : Int} (h : defB o = false) : dfI o a = 0 := by unfold dfI; rw [h]; rfl
set_option maxHeartbeats 1000000 in
theorem edefines_any (o a b c m : Int) (w : World) : Calls Tryd.prog 55 #[iv o a b c m] w (DefPost o a w) := by
  obtain ⟨W, hW, hR, hB⟩ := ibox w o a b c m
  have HW := hide hW
  have HB := hide hB
  have x0 := hR.cell (k := 0) rfl
  have x1 := hR.cell (k := 1) rfl
  have cr := ewrites_any o W
  unfold DefPost
  cases hu : defB o with
  | true =>
    rw [hu] at cr
    rw [dfI_on hu]
    clear hW hR hB hu
    go_enter Tryd.func55, Tryd.ntmps55
    go_upto_region 1 with (fail)
    rw [HW.out]
    go_wp2_with fail
    refine cr.mono ?_
    rintro e w' ⟨rfl, rfl⟩
    clear HW
    go_wp2_with fail
    go_ret2
    exact ⟨rfl, HB.out⟩
  | false =>
    rw [hu] at cr
    rw [dfI_off hu]
    clear hW hR hB hu
    go_enter Tryd.func55, Tryd.ntmps55
    go_upto_region 1 with (fail)
    rw [HW.out]
    go_wp2_with fail
    refine cr.mono ?_
    rintro e w' ⟨rfl, rfl⟩
    clear HW
    go_wp2_with fail
    go_ret2
    exact ⟨rfl, HB.out⟩
end Go.Proofs.YtidlnecgfgnllaaDoor
end

section
/-
  Plain mathematics of math/bits.OnesCount64: its answer is from 0 to 127, and 0 just at 0. No function of the program is named here.
-/
namespace Go.Proofs.YtidlnecgfgnllaaDoor
open Go.RowKit

/-- The byte c, k times. -/
def rep (c : Nat) : Nat → Nat
  | 0 => 0
  | k + 1 => c + 256 * rep c k
theorem and_step {b c : Nat} (r M : Nat) (hb : b < 256) (hc : c < 256) : (b + 256 * r) &&& (c + 256 * M) = (b &&& c) + 256 * (r &&& M) := by
  have h1 : ((b + 256 * r) &&& (c + 256 * M)) % 2 ^ 8 = b &&& c := by
    rw [Nat.and_mod_two_pow, show (b + 256 * r) % 2 ^ 8 = b by omega, show (c + 256 * M) % 2 ^ 8 = c by omega]
  have h2 : ((b + 256 * r) &&& (c + 256 * M)) / 2 ^ 8 = r &&& M := by
    rw [Nat.and_div_two_pow, show (b + 256 * r) / 2 ^ 8 = r by omega, show (c + 256 * M) / 2 ^ 8 = M by omega]
  omega
def o1 (k x : Nat) : Nat := ((x / 2) &&& rep 85 k) + (x &&& rep 85 k)
def o2 (k x : Nat) : Nat := ((x / 4) &&& rep 51 k) + (x &&& rep 51 k)
def o3 (k x : Nat) : Nat := (x / 16 + x) &&& rep 15 k
def f1 (b : Nat) : Nat := ((b / 2) &&& 85) + (b &&& 85)
def f2 (b : Nat) : Nat := ((b / 4) &&& 51) + (b &&& 51)
def f3 (b : Nat) : Nat := (b / 16 + b) &&& 15
theorem b1 : ∀ b, b < 256 → ∀ e, e < 2 → (b / 2 + 128 * e) &&& 85 = (b / 2) &&& 85 := by decide +kernel
theorem b2 : ∀ b, b < 256 → ∀ e, e < 4 → (b / 4 + 64 * e) &&& 51 = (b / 4) &&& 51 := by decide +kernel
theorem b3 : ∀ b, b < 256 → ∀ e, e < 5 → b % 16 ≤ 4 → b / 16 ≤ 4 → b / 16 + 16 * e + b < 256 ∧ (b / 16 + 16 * e + b) &&& 15 = f3 b := by decide +kernel
theorem b4 : ∀ b, b < 256 → f1 b < 256 ∧ f2 (f1 b) < 256 ∧ f2 (f1 b) % 16 ≤ 4 ∧ f2 (f1 b) / 16 ≤ 4 ∧ f3 (f2 (f1 b)) ≤ 8 ∧ (f3 (f2 (f1 b)) = 0 → b = 0) := by decide +kernel
theorem o1_step {b : Nat} (r k : Nat) (hb : b < 256) : o1 (k + 1) (b + 256 * r) = f1 b + 256 * o1 k r := by
  unfold o1 f1
  rw [rep, show (b + 256 * r) / 2 = (b / 2 + 128 * (r % 2)) + 256 * (r / 2) by omega, and_step _ _ (by omega) (by decide), and_step _ _ hb (by decide), b1 b hb _ (by omega)]
  omega
theorem o2_step {b : Nat} (r k : Nat) (hb : b < 256) : o2 (k + 1) (b + 256 * r) = f2 b + 256 * o2 k r := by
  unfold o2 f2
  rw [rep, show (b + 256 * r) / 4 = (b / 4 + 64 * (r % 4)) + 256 * (r / 4) by omega, and_step _ _ (by omega) (by decide), and_step _ _ hb (by decide), b2 b hb _ (by omega)]
  omega
theorem o3_step {b : Nat} (r k : Nat) (hb : b < 256) (h1 : b % 16 ≤ 4) (h2 : b / 16 ≤ 4) (h3 : r % 16 ≤ 4) : o3 (k + 1) (b + 256 * r) = f3 b + 256 * o3 k r := by
  have h := b3 b hb (r % 16) (by omega) h1 h2
  unfold o3
  rw [rep, show (b + 256 * r) / 16 + (b + 256 * r) = (b / 16 + 16 * (r % 16) + b) + 256 * (r / 16 + r) by omega, and_step _ _ h.1 (by decide), h.2]
/-- The three steps on k bytes. -/
def o123 (k x : Nat) : Nat := o3 k (o2 k (o1 k x))
theorem o12_low (k x : Nat) : o2 k (o1 k x) % 16 ≤ 4 := by
  cases k with
  | zero => simp [o2, rep]
  | succ k =>
    have h := b4 (x % 256) (by omega)
    rw [show x = x % 256 + 256 * (x / 256) by omega, o1_step _ _ (by omega), o2_step _ _ h.1]
    omega
theorem o123_step {b : Nat} (r k : Nat) (hb : b < 256) : o123 (k + 1) (b + 256 * r) = f3 (f2 (f1 b)) + 256 * o123 k r := by
  have h := b4 b hb
  unfold o123
  rw [o1_step _ _ hb, o2_step _ _ h.1, o3_step _ _ h.2.1 h.2.2.1 h.2.2.2.1 (o12_low k r)]
def o4 (r : Nat) : Nat := ((r + r / 256) + (r + r / 256) / 65536 + ((r + r / 256) + (r + r / 256) / 65536) / 4294967296) % 128
theorem o4_of (r q s p t u : Nat) (hq : r / 256 = q) (hs : r + q = s) (hp : s / 65536 = p) (ht : s + p = t) (hu : t / 4294967296 = u) : o4 r = (t + u) % 128 := by
  unfold o4
  rw [hq, hs, hp, ht, hu]
theorem o4_sum (d0 d1 d2 d3 d4 d5 d6 d7 : Nat) (h0 : d0 ≤ 8) (h1 : d1 ≤ 8) (h2 : d2 ≤ 8) (h3 : d3 ≤ 8) (h4 : d4 ≤ 8) (h5 : d5 ≤ 8) (h6 : d6 ≤ 8) (h7 : d7 ≤ 8) :
    o4 (d0 + 256 * (d1 + 256 * (d2 + 256 * (d3 + 256 * (d4 + 256 * (d5 + 256 * (d6 + 256 * d7))))))) = d0 + d1 + d2 + d3 + d4 + d5 + d6 + d7 := by
  have eq : (d0 + 256 * (d1 + 256 * (d2 + 256 * (d3 + 256 * (d4 + 256 * (d5 + 256 * (d6 + 256 * d7))))))) / 256 = d1 + 256 * (d2 + 256 * (d3 + 256 * (d4 + 256 * (d5 + 256 * (d6 + 256 * d7))))) := by omega
  have es : (d0 + 256 * (d1 + 256 * (d2 + 256 * (d3 + 256 * (d4 + 256 * (d5 + 256 * (d6 + 256 * d7))))))) + (d1 + 256 * (d2 + 256 * (d3 + 256 * (d4 + 256 * (d5 + 256 * (d6 + 256 * d7)))))) = (d0 + d1) + 256 * ((d1 + d2) + 256 * ((d2 + d3) + 256 * ((d3 + d4) + 256 * ((d4 + d5) + 256 * ((d5 + d6) + 256 * ((d6 + d7) + 256 * d7)))))) := by omega
  have ep : ((d0 + d1) + 256 * ((d1 + d2) + 256 * ((d2 + d3) + 256 * ((d3 + d4) + 256 * ((d4 + d5) + 256 * ((d5 + d6) + 256 * ((d6 + d7) + 256 * d7))))))) / 65536 = (d2 + d3) + 256 * ((d3 + d4) + 256 * ((d4 + d5) + 256 * ((d5 + d6) + 256 * ((d6 + d7) + 256 * d7)))) := by omega
  have et : ((d0 + d1) + 256 * ((d1 + d2) + 256 * ((d2 + d3) + 256 * ((d3 + d4) + 256 * ((d4 + d5) + 256 * ((d5 + d6) + 256 * ((d6 + d7) + 256 * d7))))))) + ((d2 + d3) + 256 * ((d3 + d4) + 256 * ((d4 + d5) + 256 * ((d5 + d6) + 256 * ((d6 + d7) + 256 * d7))))) = (d0 + d1 + d2 + d3) + 256 * ((d1 + d2 + d3 + d4) + 256 * ((d2 + d3 + d4 + d5) + 256 * ((d3 + d4 + d5 + d6) + 256 * ((d4 + d5 + d6 + d7) + 256 * ((d5 + d6 + d7) + 256 * ((d6 + d7) + 256 * d7)))))) := by omega
  have eu : ((d0 + d1 + d2 + d3) + 256 * ((d1 + d2 + d3 + d4) + 256 * ((d2 + d3 + d4 + d5) + 256 * ((d3 + d4 + d5 + d6) + 256 * ((d4 + d5 + d6 + d7) + 256 * ((d5 + d6 + d7) + 256 * ((d6 + d7) + 256 * d7))))))) / 4294967296 = (d4 + d5 + d6 + d7) + 256 * ((d5 + d6 + d7) + 256 * ((d6 + d7) + 256 * d7)) := by omega
  rw [o4_of _ _ _ _ _ _ eq es ep et eu]
  clear eq es ep et eu
  omega
/-- math/bits.OnesCount64. -/
def ones (x : Nat) : Nat := o4 (o123 8 x)
theorem ones_lt (x : Nat) : ones x < 128 := Nat.mod_lt _ (by decide)
theorem ones_zero : ones 0 = 0 := by decide
theorem ones_eq {x : Nat} (hx : x < 18446744073709551616) (h : ones x = 0) : x = 0 := by
  obtain ⟨c0, r0, b0, e0⟩ : ∃ b r, b < 256 ∧ x = b + 256 * r := ⟨x % 256, x / 256, by omega, by omega⟩
  obtain ⟨c1, r1, b1, e1⟩ : ∃ b r, b < 256 ∧ r0 = b + 256 * r := ⟨r0 % 256, r0 / 256, by omega, by omega⟩
  obtain ⟨c2, r2, b2, e2⟩ : ∃ b r, b < 256 ∧ r1 = b + 256 * r := ⟨r1 % 256, r1 / 256, by omega, by omega⟩
  obtain ⟨c3, r3, b3, e3⟩ : ∃ b r, b < 256 ∧ r2 = b + 256 * r := ⟨r2 % 256, r2 / 256, by omega, by omega⟩
  obtain ⟨c4, r4, b4', e4⟩ : ∃ b r, b < 256 ∧ r3 = b + 256 * r := ⟨r3 % 256, r3 / 256, by omega, by omega⟩
  obtain ⟨c5, r5, b5, e5⟩ : ∃ b r, b < 256 ∧ r4 = b + 256 * r := ⟨r4 % 256, r4 / 256, by omega, by omega⟩
  obtain ⟨c6, r6, b6, e6⟩ : ∃ b r, b < 256 ∧ r5 = b + 256 * r := ⟨r5 % 256, r5 / 256, by omega, by omega⟩
  obtain ⟨c7, r7, b7, e7⟩ : ∃ b r, b < 256 ∧ r6 = b + 256 * r := ⟨r6 % 256, r6 / 256, by omega, by omega⟩
  have hr : r7 = 0 := by omega
  have g0 := b4 c0 b0
  have g1 := b4 c1 b1
  have g2 := b4 c2 b2
  have g3 := b4 c3 b3
  have g4 := b4 c4 b4'
  have g5 := b4 c5 b5
  have g6 := b4 c6 b6
  have g7 := b4 c7 b7
  have hz : o123 0 r7 = 0 := by simp [o123, o3, rep]
  unfold ones at h
  rw [e0, o123_step _ _ b0, e1, o123_step _ _ b1, e2, o123_step _ _ b2, e3, o123_step _ _ b3, e4, o123_step _ _ b4', e5, o123_step _ _ b5, e6, o123_step _ _ b6, e7, o123_step _ _ b7, hz, Nat.mul_zero, Nat.add_zero,
    o4_sum _ _ _ _ _ _ _ _ g0.2.2.2.2.1 g1.2.2.2.2.1 g2.2.2.2.2.1 g3.2.2.2.2.1 g4.2.2.2.2.1 g5.2.2.2.2.1 g6.2.2.2.2.1 g7.2.2.2.2.1] at h
  have q0 := g0.2.2.2.2.2 (by omega)
  have q1 := g1.2.2.2.2.2 (by omega)
  have q2 := g2.2.2.2.2.2 (by omega)
  have q3 := g3.2.2.2.2.2 (by omega)
  have q4 := g4.2.2.2.2.2 (by omega)
  have q5 := g5.2.2.2.2.2 (by omega)
  have q6 := g6.2.2.2.2.2 (by omega)
  have q7 := g7.2.2.2.2.2 (by omega)
  omega
theorem and_le_rep (a m : Nat) : a &&& m ≤ m := Nat.and_le_right
theorem and_127 (a : Nat) (ha : a < 9223372036854775808) : bits .and .i64 (a : Int) 127 = ((a % 128 : Nat) : Int) := by
  have h1 : (BitVec.ofInt 64 (a : Int)).toNat = a := by
    rw [BitVec.ofInt_natCast, BitVec.toNat_ofNat]; exact Nat.mod_eq_of_lt (by omega)
  have h2 : (BitVec.ofInt 64 127).toNat = 2 ^ 7 - 1 := by decide
  show IntKind.i64.wrap ((BitVec.ofInt 64 (a : Int) &&& BitVec.ofInt 64 127).toNat : Int) = _
  rw [BitVec.toNat_and, h1, h2, Nat.and_two_pow_sub_one_eq_mod]
  simp [IntKind.wrap, IntKind.bits, IntKind.signed]
  omega
end Go.Proofs.YtidlnecgfgnllaaDoor
end
