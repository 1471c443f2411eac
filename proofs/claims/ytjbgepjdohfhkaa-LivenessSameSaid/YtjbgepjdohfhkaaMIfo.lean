import Derived.Test.YtjbgepjdohfhkaaMLeaf
import Derived.Test.YtjbgepjdohfhkaaMDraw
import Derived.Maps.Range
set_option linter.unusedVariables false
set_option linter.unusedSimpArgs false
section
/-
  What the program says of the type int. No function of the program is named here.
-/
namespace Go.Proofs.Ytjbgepjdohfhkaa
open Go.RowKit

theorem Try.info3 : (Try.prog.info? 3).map (fun i => (i.zero, i.size, i.bytes)) = some (some (.int .i64 0), 1, 8) := by kernel_rfl
end Go.Proofs.Ytjbgepjdohfhkaa
end

section
/-
  The contract of spillframedraw's Word. Conditions: the receiver is a list of choices.
-/
namespace Go.Proofs.Ytjbgepjdohfhkaa
open Go.RowKit

/-- A word of 64 bits. -/
def isW (v : Int) : Prop := 0 ≤ v ∧ v ≤ 18446744073709551615
theorem wrap_isW (z : Int) : isW (IntKind.u64.wrap z) := by
  simp only [isW, IntKind.wrap, IntKind.signed, IntKind.bits]
  simp
  omega
def WordPost (g : Nat) (w : World) (e : Ending) (w' : World) : Prop := ∃ v : Int, e = .returned (.int .u64 v) ∧ isW v ∧ Codes w' g ∧ w.grownBy w' (some g) ∧ w'.heap.size = w.heap.size

set_option maxHeartbeats 1000000 in
theorem cword_any (g : Nat) (w : World) (h : Hid (Codes w g)) : Calls Try.prog 48 #[.pointer (some ⟨g, 0, none⟩)] w (WordPost g w) := by
  have c := next_any g
  go_enter Try.func48, Try.ntmps48
  go_wp2_with fail
  refine (c 6 _ h (by omega) (by omega)).mono ?_
  rintro e w1 ⟨v, rfl, v0, v1, hC, hG, hz⟩
  have HC := hide hC
  have HG := hide hG
  have HZ := hide hz
  clear hC hG hz
  rcases (show v = 0 ∨ v = 1 ∨ v = 2 ∨ 3 ≤ v by omega) with rfl | rfl | rfl | hv
  · go_wp2_with fail
    refine (c 3 _ HC (by omega) (by omega)).mono ?_
    rintro e w2 ⟨u, rfl, u0, u1, hC2, hG2, hz2⟩
    have HC2 := hide hC2
    have HG2 := hide (HG.out.trans hG2)
    have HZ2 := hide (hz2.trans HZ.out)
    clear hC2 hG2 hz2
    go_wp2_with fail
    go_ret
    exact ⟨_, rfl, ⟨by omega, by omega⟩, HC2.out, HG2.out, HZ2.out⟩
  · go_wp2_with fail
    refine (c 64 _ HC (by omega) (by omega)).mono ?_
    rintro e w2 ⟨u, rfl, u0, u1, hC2, hG2, hz2⟩
    have HC2 := hide hC2
    have HG2 := hide (HG.out.trans hG2)
    have HZ2 := hide (hz2.trans HZ.out)
    clear hC2 hG2 hz2
    go_wp2_with fail
    go_ret
    exact ⟨_, rfl, wrap_isW _, HC2.out, HG2.out, HZ2.out⟩
  · go_wp2_with fail
    go_ret
    exact ⟨0, rfl, ⟨by omega, by omega⟩, HC.out, HG.out, HZ.out⟩
  · have b0 : (v == 0) = false := by simp; omega
    have b1 : (v == 1) = false := by simp; omega
    have b2 : (v == 2) = false := by simp; omega
    go_wp2_with fail
    refine (c 256 _ HC (by omega) (by omega)).mono ?_
    rintro e w2 ⟨u, rfl, u0, u1, hC2, hG2, hz2⟩
    have HC2 := hide hC2
    have HG2 := hide (HG.out.trans hG2)
    have HZ2 := hide (hz2.trans HZ.out)
    clear hC2 hG2 hz2
    go_wp2_with fail
    go_ret
    exact ⟨u, rfl, ⟨by omega, by omega⟩, HC2.out, HG2.out, HZ2.out⟩
end Go.Proofs.Ytjbgepjdohfhkaa
end

section
/-
  Lists of pairs that a loop draws: what the loop keeps. No function of the program is named here.
-/
namespace Go.Proofs.Ytjbgepjdohfhkaa
open Go.RowKit

theorem two_new (w : World) (x y : Value) (t : TypeId) : ∀ (j : Nat) (u : Value), [x, y][j]? = some u → (w.alloc (.cells #[x, y] t)).cell? ((⟨w.heap.size, 0, none⟩ : Addr).add j) = some u := by
  intro j u hu
  rw [WideShapes.add_plain, Nat.zero_add]
  exact (Row.new w t [x, y]).cell hu
theorem two_cells (x y : Int) : ∀ u ∈ [Value.int .i64 x, Value.int .i64 y], u.oneCell' = true := by
  intro u hu
  simp only [List.mem_cons, List.not_mem_nil, or_false] at hu
  rcases hu with rfl | rfl <;> rfl

/-- What a loop that draws pairs keeps: how many are still to come, the pairs, the choices. -/
def ListRel (ok : Int → Int → Bool) (w0 : World) (g t m : Nat) (nv lv : Value) (wr : World) : Prop :=
  ∃ (k : Nat) (l : List (Int × Int)), k + l.length ≤ m ∧ nv = .int .i64 (k : Int) ∧ wr.ownsRow w0.heap.size t 2 lv l.length (pcells l) ∧ (∀ u ∈ l, ok u.1 u.2 = true) ∧ Codes wr g ∧ w0.grownBy wr (some g)

section
variable {w0 wr w2 w3 : World} {g t : Nat} {lv v' : Value} {l : List (Int × Int)}
theorem own_far (ho : wr.ownsRow w0.heap.size t 2 lv l.length (pcells l)) (hg : g < w0.heap.size) : lv.ownBlock = none ∨ lv.ownBlock ≠ some g := by
  cases e : lv.ownBlock with
  | none => exact .inl rfl
  | some k => exact .inr fun h => by have := (ho.lt k e).1; injection h with h; omega
/-- After choices. -/
theorem own_drawn (ho : wr.ownsRow w0.heap.size t 2 lv l.length (pcells l)) (hg : g < w0.heap.size) (hG : wr.grownBy w2 (some g)) : w2.ownsRow w0.heap.size t 2 lv l.length (pcells l) := ho.kept hG (own_far ho hg)
/-- After an append of one pair. -/
theorem ListRel.step {ok : Int → Int → Bool} {m k : Nat} {x y : Int} {e : TypeId} (hk : k + 1 + l.length ≤ m) (hg : g < w0.heap.size) (ho : w2.ownsRow w0.heap.size t 2 lv l.length (pcells l)) (hok : ∀ u ∈ l, ok u.1 u.2 = true) (hxy : ok x y = true) (hC : Codes w2 g) (hG : w0.grownBy w2 (some g))
    (ho' : w3.ownsRow w0.heap.size t 2 v' (l.length + 1) (pcells l ++ [.int .i64 x, .int .i64 y])) (hg' : (w2.alloc (.cells #[.int .i64 x, .int .i64 y] e)).grownBy w3 lv.ownBlock) :
    ListRel ok w0 g t m (.int .i64 (k : Int)) v' w3 := by
  refine ⟨k, l ++ [(x, y)], by simp; omega, rfl, ?_, fun u hu => ?_, (hC.alloc _).kept hg' (fun j hj => ?_), (hG.trans (World.grownBy_alloc _ _ _)).andThen hg' (fun j hj => .inl (ho.lt j hj).1)⟩
  · rw [pcells_append, pcells_one]
    simpa using ho'
  · rcases List.mem_append.1 hu with h | h
    · exact hok u h
    · simp at h; subst h; exact hxy
  · have := (ho.lt j hj).1
    omega
theorem ListRel.start {ok : Int → Int → Bool} {m k : Nat} (hk : k ≤ m) (hC : Codes wr g) (hG : w0.grownBy wr (some g)) : ListRel ok w0 g t m (.int .i64 (k : Int)) (.slice none 0 0) wr :=
  ⟨k, [], by simpa using hk, rfl, ⟨by simp [pcells], .inl ⟨rfl, rfl⟩⟩, (fun u hu => by cases hu), hC, hG⟩
end
/-- What such a loop leaves. -/
def ListPost (ok : Int → Int → Bool) (g t m : Nat) (w : World) (e : Ending) (w' : World) : Prop :=
  ∃ (A : Option Addr) (c : Nat) (l : List (Int × Int)), e = .returned (.slice A l.length c) ∧ (A = none → c = 0) ∧ w'.ownsRow w.heap.size t 2 (.slice A l.length c) l.length (pcells l) ∧ l.length ≤ m ∧ (∀ u ∈ l, ok u.1 u.2 = true) ∧ Codes w' g ∧ w.grownBy w' (some g)
end Go.Proofs.Ytjbgepjdohfhkaa
end
