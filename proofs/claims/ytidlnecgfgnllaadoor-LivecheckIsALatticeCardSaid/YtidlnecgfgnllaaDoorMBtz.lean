import Derived.Test.YtidlnecgfgnllaaDoorMFgr
import Derived.Test.YtidlnecgfgnllaaDoorMKit
import Derived.Test.YtidlnecgfgnllaaDoorMHdef
import Derived.Shelf.Spec.TrailingZeros
import Derived.Lib.BitFns
import Derived.RegionTactic
import Derived.ChangeAlike
import Derived.Maps.AppendAt
set_option linter.unusedVariables false
set_option linter.unusedSimpArgs false
section
/-
  The contract of math/bits.TrailingZeros64. Conditions: those of the types; it reads its table, which must lie as its initialiser lays it.
-/
namespace Go.Proofs.YtidlnecgfgnllaaDoor
open Go.RowKit

/-- The table of TrailingZeros64 lies in its variable. -/
def Tab (w : World) : Prop := TabAt 0 Lib.deBruijn64tab w
theorem Tab.pos {w : World} (h : Tab w) : 0 < w.heap.size := World.block_lt_of_cell? _ _ (h 0 (by decide))
theorem Tab.below {w w' : World} (h : Tab w) (hb : Below w.heap.size w w') : Tab w' := fun j hj => keep_cellB hb (h j hj)
theorem Tab.kept {B : Nat} {w w' : World} (h : Tab w) (hb : Below B w w') (hB : 0 < B) : Tab w' := fun j hj => (hb.cell (p := ⟨0, j, none⟩) hB).trans (h j hj)

set_option maxHeartbeats 400000 in
theorem tz_core (x k idx : Nat) (w : World) (hx1 : ((x : Int) == 0) = false)
    (key : IntKind.u64.wrap (bits BinOp.and IntKind.u64 (x : Int) (IntKind.u64.wrap (-(x : Int))) * 285870213051353865) / 288230376151711744 = (idx : Int))
    (hi : idx < 64) (hk : k < 64) (hcell : w.cell? ⟨0, idx, none⟩ = some (.int .u8 k)) :
    Calls Tryd.prog 74 #[.int .u64 x] w fun e w' => e = .returned (.int .i64 k) ∧ w = w' := by
  go_enter Tryd.func74, Tryd.ntmps74
  go_wp2_with (simp only [key])
  go_ret
  exact ⟨rfl, rfl⟩
theorem tz_any (x : Nat) (w : World) (hx : x < 18446744073709551616) (hx0 : x ≠ 0) (hT : Hid (Tab w)) : Calls Tryd.prog 74 #[.int .u64 x] w fun e w' => e = .returned (.int .i64 (Lib.ctz 64 x : Nat)) ∧ w = w' := by
  obtain ⟨hlow, hk⟩ := Lib.lowest_bit 64 x hx0 hx
  obtain ⟨hi, htab⟩ := Lib.deBruijn64_at _ hk
  have hcell := hT.out _ hi
  rw [htab] at hcell
  exact tz_core x _ _ w (by simp; omega) (tz64_key x _ hx hx0 hlow) hi hk hcell
end Go.Proofs.YtidlnecgfgnllaaDoor
end

section
/-
  The contracts of bitset.place, math/bits.OnesCount64 and TrailingZeros64, the reference's good, spillframedraw.Mod. Conditions: those of the types; TrailingZeros64 reads its table, which must lie as its initialiser lays it.
-/
namespace Go.Proofs.YtidlnecgfgnllaaDoor
open Go.RowKit
theorem rt_bool {a b : Bool} (h : a = b) : Ending.returned (.bool a) = .returned (.bool b) := by rw [h]

theorem place_any (n : Int) (w : World) (h0 : -9223372036854775808 ≤ n) (h1 : n ≤ 9223372036854775807) : Calls Tryd.prog 85 #[.int .i64 n] w fun e w' => e = .returned (.tuple #[.int .i64 (pl n : Nat), .int .u64 (bt n : Nat)]) ∧ w = w' := by
  by_cases hn : 0 ≤ n
  · by_cases hm : n < 512
    · have hp : ((pl n : Nat) : Int) = n / 64 := by unfold pl; rw [if_pos ⟨hn, hm⟩]; omega
      have hb : IntKind.u64.wrap (2 ^ (n % 64).toNat) = ((bt n : Nat) : Int) := by
        have hlt := bt_lt n
        have e : ((bt n : Nat) : Int) = 2 ^ (n % 64).toNat := by
          unfold bt
          rw [if_pos ⟨hn, hm⟩, Int.natCast_pow, show (n % 64).toNat = n.toNat % 64 by omega]
          rfl
        rw [← e, IntKind.wrap_u64]
        omega
      have HP := hide hp
      clear hp
      go_enter Tryd.func85, Tryd.ntmps85
      go_wp2_with fail
      go_ret2
      exact ⟨by rw [HP.out]; rfl, rfl⟩
    · have hp := hide (show pl n = 0 by unfold pl; rw [if_neg (by omega)])
      have hb := hide (show bt n = 0 by unfold bt; rw [if_neg (by omega)])
      go_enter Tryd.func85, Tryd.ntmps85
      go_wp2_with fail
      go_ret2
      exact ⟨by rw [hp.out, hb.out]; rfl, rfl⟩
  · have hp := hide (show pl n = 0 by unfold pl; rw [if_neg (by omega)])
    have hb := hide (show bt n = 0 by unfold bt; rw [if_neg (by omega)])
    obtain ⟨q, hq⟩ : ∃ q, IntKind.u64.wrap n = q := ⟨_, rfl⟩
    have q0 : 512 ≤ q := by rw [← hq, IntKind.wrap_u64]; omega
    have q1 : q ≤ 18446744073709551615 := by rw [← hq, IntKind.wrap_u64]; omega
    go_enter Tryd.func85, Tryd.ntmps85
    go_wp2_with fail
    go_ret2
    exact ⟨by rw [hp.out, hb.out]; rfl, rfl⟩

set_option maxHeartbeats 400000 in
theorem ones_any (x : Nat) (w : World) (hx : x < 18446744073709551616) : Calls Tryd.prog 86 #[.int .u64 x] w fun e w' => e = .returned (.int .i64 (ones x : Nat)) ∧ w = w' := by
  have m0 : rep 85 8 = 6148914691236517205 := by decide
  have m1 : rep 51 8 = 3689348814741910323 := by decide
  have m2 : rep 15 8 = 1085102592571150095 := by decide
  obtain ⟨p1, e1, l1⟩ : ∃ p, p = (x / 2) &&& rep 85 8 ∧ p ≤ rep 85 8 := ⟨_, rfl, Nat.and_le_right⟩
  obtain ⟨p2, e2, l2⟩ : ∃ p, p = x &&& rep 85 8 ∧ p ≤ rep 85 8 := ⟨_, rfl, Nat.and_le_right⟩
  obtain ⟨q1, e3, l3⟩ : ∃ p, p = ((p1 + p2) / 4) &&& rep 51 8 ∧ p ≤ rep 51 8 := ⟨_, rfl, Nat.and_le_right⟩
  obtain ⟨q2, e4, l4⟩ : ∃ p, p = (p1 + p2) &&& rep 51 8 ∧ p ≤ rep 51 8 := ⟨_, rfl, Nat.and_le_right⟩
  obtain ⟨r, e5, l5⟩ : ∃ p, p = ((q1 + q2) / 16 + (q1 + q2)) &&& rep 15 8 ∧ p ≤ rep 15 8 := ⟨_, rfl, Nat.and_le_right⟩
  have hone : ones x = o4 r := by
    unfold ones o123 o3 o2 o1
    rw [e5, e3, e4, e1, e2]
  rw [m0] at e1 e2 l1 l2
  rw [m1] at e3 e4 l3 l4
  rw [m2] at e5 l5
  have k1 : bits BinOp.and IntKind.u64 ((x : Int) / 2) 6148914691236517205 = (p1 : Int) := by
    rw [e1]; exact bits_and_u64_nat (x / 2) 6148914691236517205 (by omega) (by omega)
  have k2 : bits BinOp.and IntKind.u64 (x : Int) 6148914691236517205 = (p2 : Int) := by
    rw [e2]; exact bits_and_u64_nat x 6148914691236517205 (by omega) (by omega)
  have k3 : bits BinOp.and IntKind.u64 (((p1 : Int) + (p2 : Int)) / 4) 3689348814741910323 = (q1 : Int) := by
    rw [e3]; exact bits_and_u64_nat ((p1 + p2) / 4) 3689348814741910323 (by omega) (by omega)
  have k4 : bits BinOp.and IntKind.u64 ((p1 : Int) + (p2 : Int)) 3689348814741910323 = (q2 : Int) := by
    rw [e4]; exact bits_and_u64_nat (p1 + p2) 3689348814741910323 (by omega) (by omega)
  have k5 : bits BinOp.and IntKind.u64 (((q1 : Int) + (q2 : Int)) / 16 + ((q1 : Int) + (q2 : Int))) 1085102592571150095 = (r : Int) := by
    rw [e5]; exact bits_and_u64_nat ((q1 + q2) / 16 + (q1 + q2)) 1085102592571150095 (by omega) (by omega)
  have k6 : bits BinOp.and IntKind.i64 ((r : Int) + (r : Int) / 256 + ((r : Int) + (r : Int) / 256) / 65536 + ((r : Int) + (r : Int) / 256 + ((r : Int) + (r : Int) / 256) / 65536) / 4294967296) 127 = ((o4 r : Nat) : Int) :=
    and_127 ((r + r / 256) + (r + r / 256) / 65536 + ((r + r / 256) + (r + r / 256) / 65536) / 4294967296) (by omega)
  have HO := hide hone
  clear e1 e2 e3 e4 e5 m0 m1 m2 hone
  go_enter Tryd.func86, Tryd.ntmps86
  go_wp2_with fail
  go_ret
  exact ⟨by rw [HO.out]; rfl, rfl⟩
end Go.Proofs.YtidlnecgfgnllaaDoor
end

section
/-
  Sets in memory: 'SetB w g N': block g holds the eight words of N; what a method that writes leaves. No function of the program is named here.
-/
namespace Go.Proofs.YtidlnecgfgnllaaDoor
open Go.RowKit
/-- Block g holds the eight words of N. -/
def SetB (w : World) (g N : Nat) : Prop := Row w g 80 (w8 (wd N))
theorem SetB.lt {w : World} {g N : Nat} (h : SetB w g N) : g < w.heap.size := Row.lt h
theorem SetB.call {w w' : World} {g N : Nat} (h : SetB w g N) (hb : Below w.heap.size w w') : SetB w' g N := Row.call h hb

/-- Block g has turned to N; all else is as it was. -/
def WritePost (g N : Nat) (w : World) (e : Ending) (w' : World) : Prop := e = .returned (.tuple #[]) ∧ SetB w' g N ∧ w.grownBy w' (some g)

theorem grown_drawn {w w' : World} {row : Option Nat} (h : w.grownBy w' row) (k : Nat) : w.grownBy (w'.drewN k) row := ⟨h.os, h.tape, h.output, h.size, h.block⟩
theorem grown_put {w w' : World} {g : Nat} (h : w.grownBy w' (some g)) (k : Nat) (u : Value) : w.grownBy (w'.setCell ⟨g, k, none⟩ u) (some g) :=
  ⟨h.os, h.tape, h.output, by simpa [World.setCell] using h.size, fun i hi hne => (Below.heap_setCell w' ⟨g, k, none⟩ u i (by rintro rfl; exact hne rfl)).trans (h.block i hi hne)⟩
theorem write_end {w : World} {g N M k : Nat} {v : Value} (h : Hid (SetB w g N)) (K : Hid ((w8 (wd N)).set k v = w8 (wd M))) : WritePost g M w (.returned (.tuple #[])) (w.setCell ⟨g, k, none⟩ v).drew := by
  refine ⟨rfl, ?_, grown_drawn (grown_put (World.grownBy.refl w _) k _) 1⟩
  have := (Row.set_ h.out k v).drew
  rw [K.out] at this
  exact this

theorem set_or (N : Nat) (n : Int) : (w8 (wd N)).set (pl n) (.int .u64 ((wd N (pl n) ||| bt n : Nat) : Int)) = w8 (wd (N ||| one n)) := by
  rw [w8_set _ (pl_lt n)]
  apply w8_congr
  intro i hi
  rw [wd_or, wd_one]
  split
  · rename_i e; rw [e]
  · rw [Nat.or_zero]
theorem diff_zero (N : Nat) : diff N 0 = N := by simp [diff]
theorem set_diff (N : Nat) (n : Int) : (w8 (wd N)).set (pl n) (.int .u64 ((diff (wd N (pl n)) (bt n) : Nat) : Int)) = w8 (wd (diff N (one n))) := by
  rw [w8_set _ (pl_lt n)]
  apply w8_congr
  intro i hi
  rw [wd_diff, wd_one]
  split
  · rename_i e; rw [e]
  · rw [diff_zero]

end Go.Proofs.YtidlnecgfgnllaaDoor
end

section
/-
  Sets by value; what a method on whole sets keeps. No function of the program is named here.
-/
namespace Go.Proofs.YtidlnecgfgnllaaDoor
open Go.RowKit
/-- A set by value. -/
abbrev sv (f : Nat → Nat) : Value := .agg #[.int .u64 (f 0 : Nat), .int .u64 (f 1 : Nat), .int .u64 (f 2 : Nat), .int .u64 (f 3 : Nat), .int .u64 (f 4 : Nat), .int .u64 (f 5 : Nat), .int .u64 (f 6 : Nat), .int .u64 (f 7 : Nat)]
theorem index8 (f : Nat → Nat) {k : Nat} (hk : k < 8) (w : World) : (Instr.index 78 (sv f) (.int .i64 (k : Nat))).run Tryd.prog w = .ok (.int .u64 (f k : Nat)) w := by
  rcases lt8 hk with rfl | rfl | rfl | rfl | rfl | rfl | rfl | rfl <;> kernel_rfl
theorem SetB.cells {w : World} {g N : Nat} (h : SetB w g N) : w.cell? ⟨g, 0, none⟩ = some (.int .u64 (wd N 0 : Nat)) ∧ w.cell? ⟨g, 1, none⟩ = some (.int .u64 (wd N 1 : Nat)) ∧ w.cell? ⟨g, 2, none⟩ = some (.int .u64 (wd N 2 : Nat)) ∧ w.cell? ⟨g, 3, none⟩ = some (.int .u64 (wd N 3 : Nat)) ∧
    w.cell? ⟨g, 4, none⟩ = some (.int .u64 (wd N 4 : Nat)) ∧ w.cell? ⟨g, 5, none⟩ = some (.int .u64 (wd N 5 : Nat)) ∧ w.cell? ⟨g, 6, none⟩ = some (.int .u64 (wd N 6 : Nat)) ∧ w.cell? ⟨g, 7, none⟩ = some (.int .u64 (wd N 7 : Nat)) :=
  ⟨Row.cell h rfl, Row.cell h rfl, Row.cell h rfl, Row.cell h rfl, Row.cell h rfl, Row.cell h rfl, Row.cell h rfl, Row.cell h rfl⟩

/-- How many, in the first k words. -/
def cnt (N : Nat) : Nat → Nat
  | 0 => 0
  | k + 1 => cnt N k + ones (wd N k)
theorem cnt_le (N k : Nat) : cnt N k ≤ 127 * k := by
  induction k with
  | zero => exact Nat.le_refl _
  | succ k ih =>
    have := ones_lt (wd N k)
    show cnt N k + ones (wd N k) ≤ _
    omega
theorem cnt_zero {N : Nat} (h : els N = []) (k : Nat) (hk : k ≤ 8) : cnt N k = 0 := by
  induction k with
  | zero => rfl
  | succ k ih =>
    show cnt N k + ones (wd N k) = 0
    rw [ih (by omega), els_nil h k (by omega), ones_zero]
theorem cnt_eq {N : Nat} (h : cnt N 8 = 0) : els N = [] := by
  have key : ∀ k, k ≤ 8 → cnt N k = 0 := by
    intro k hk
    have : ∀ d, cnt N k ≤ cnt N (k + d) := by
      intro d
      induction d with
      | zero => exact Nat.le_refl _
      | succ d ih => exact Nat.le_trans ih (Nat.le_add_right _ _)
    have := this (8 - k)
    rw [show k + (8 - k) = 8 by omega, h] at this
    omega
  refine wd_all fun i hi => ones_eq (wd_lt N i) ?_
  have h1 := key (i + 1) (by omega)
  have h2 : cnt N (i + 1) = cnt N i + ones (wd N i) := rfl
  omega

/-- The first k words turned, by an operation on words. -/
def mixF (op : Nat → Nat → Nat) (N M k : Nat) : Nat → Nat := fun i => if i < k then op (wd N i) (wd M i) else wd N i
theorem mix_start (op : Nat → Nat → Nat) (N M : Nat) : w8 (mixF op N M 0) = w8 (wd N) := w8_congr fun i _ => by simp [mixF]
theorem mix_end (op : Nat → Nat → Nat) (N M : Nat) : w8 (mixF op N M 8) = w8 fun i => op (wd N i) (wd M i) := w8_congr fun i hi => by simp [mixF, hi]
theorem mix_at (op : Nat → Nat → Nat) (N M k : Nat) : mixF op N M k k = wd N k := by simp [mixF]
theorem mix_set (op : Nat → Nat → Nat) (N M : Nat) {k : Nat} (hk : k < 8) : (w8 (mixF op N M k)).set k (.int .u64 (op (wd N k) (wd M k) : Nat)) = w8 (mixF op N M (k + 1)) := by
  rw [w8_set _ hk]
  apply w8_congr
  intro i hi
  unfold mixF
  by_cases h : i = k
  · subst h; simp
  · rw [if_neg h]
    by_cases h' : i < k
    · rw [if_pos h', if_pos (by omega)]
    · rw [if_neg h', if_neg (by omega)]

/-- What the loops on words keep. -/
def MixRel (op : Nat → Nat → Nat) (g N M : Nat) (W : World) (i : Value) (wr : World) : Prop :=
  ∃ k : Nat, k ≤ 8 ∧ i = .int .i64 k ∧ Row wr g 80 (w8 (mixF op N M k)) ∧ W.grownBy wr (some g)
theorem MixRel.next {op : Nat → Nat → Nat} {g N M k : Nat} {W wr : World} {v : Value} (hk : k < 8) (hr : Hid (Row wr g 80 (w8 (mixF op N M k)))) (K : Hid ((w8 (mixF op N M k)).set k v = w8 (mixF op N M (k + 1)))) (hg : Hid (W.grownBy wr (some g))) :
    MixRel op g N M W (.int .i64 ((k : Int) + 1)) (wr.setCell ⟨g, k, none⟩ v).drew := by
  refine ⟨k + 1, by omega, by go_num, ?_, grown_drawn (grown_put hg.out k v) 1⟩
  have := (Row.set_ hr.out k v).drew
  rw [K.out] at this
  exact this

end Go.Proofs.YtidlnecgfgnllaaDoor
end

section
/-
  The contract of a method of bitset.set[int] on one element: add. Conditions: those of the types.
-/
namespace Go.Proofs.YtidlnecgfgnllaaDoor
open Go.RowKit
theorem add_any (g N : Nat) (n : Int) (w : World) (h : Hid (SetB w g N)) (h0 : -9223372036854775808 ≤ n) (h1 : n ≤ 9223372036854775807) :
    Calls Tryd.prog 72 #[.pointer (some ⟨g, 0, none⟩), .int .i64 n] w (WritePost g (N ||| one n) w) := by
  have hk := pl_lt n
  have c := Row.cell h.out (w8_at (wd N) hk)
  have z := Row.free h.out (pl n)
  have e := bits_or_u64_nat _ _ (wd_lt N (pl n)) (bt_lt n)
  have cp := place_any n w h0 h1
  have K := hide (set_or N n)
  generalize N ||| one n = M at K ⊢
  generalize wd N (pl n) ||| bt n = y at e K
  generalize wd N (pl n) = x at c e
  generalize pl n = k at hk c z cp K
  generalize bt n = b at e cp
  have hk0 : (0 : Int) ≤ (k : Int) := by omega
  have hk8 : (k : Int) < 8 := by omega
  go_enter Tryd.func72, Tryd.ntmps72
  go_wp2_with fail
  refine cp.mono ?_
  rintro e w' ⟨rfl, rfl⟩
  go_wp2_with fail
  go_region
  all_goals (go_end0; exact write_end h K)
end Go.Proofs.YtidlnecgfgnllaaDoor
end
