import Derived.Test.YtidlnecgfgnllaaDoorMFgr
import Derived.Maps.AppendAt
set_option linter.unusedVariables false
set_option linter.unusedSimpArgs false
section
/-
  The contracts of spillframedraw's New, Left, Next: a list of choices behind a pointer. 'Codes w g': block g is such an object, its list below it. Conditions: those of the types; a choice from 1 to 2^32 values.
-/
namespace Go.Proofs.YtidlnecgfgnllaaDoor
open Go.RowKit

/-- Block g holds a list of choices and a place in it; the list lies below g. -/
def Codes (w : World) (g : Nat) : Prop :=
  ∃ (A : Option Addr) (n c : Nat) (zs : List Int) (i : Nat), Row w g 73 [.slice A n c, .int .i64 (i : Int)] ∧ Sees w g A (cellsU8 zs) ∧ zs.length = n ∧ n ≤ 9223372036854775807 ∧ (∀ z ∈ zs, 0 ≤ z ∧ z ≤ 255) ∧ i ≤ n
theorem Codes.lt {w : World} {g : Nat} (h : Codes w g) : g < w.heap.size := by
  obtain ⟨A, n, c, zs, i, r, _⟩ := h
  exact r.lt
theorem Codes.below {w w' : World} {g : Nat} (h : Codes w g) (hb : Below w.heap.size w w') : Codes w' g := by
  have hl := h.lt
  obtain ⟨A, n, c, zs, i, r, s, h⟩ := h
  exact ⟨A, n, c, zs, i, r.call hb, s.keep fun p hp => hb.cell (by omega), h⟩
theorem Codes.kept {w w' : World} {g : Nat} {row : Option Nat} (h : Codes w g) (hg : w.grownBy w' row) (hr : ∀ k, row = some k → g < k) : Codes w' g := by
  have hl := h.lt
  obtain ⟨A, n, c, zs, i, r, s, h⟩ := h
  refine ⟨A, n, c, zs, i, r.grown hg (fun e => ?_), s.keep fun p hp => ?_, h⟩
  · have := hr g e.symm
    omega
  · exact World.cell?_of_block (hg.block p.block (by omega) (fun e => by have := hr p.block e.symm; omega))
theorem Codes.drewN {w : World} {g : Nat} (h : Codes w g) (n : Nat) : Codes (w.drewN n) g := by
  obtain ⟨A, n', c, zs, i, r, s, h⟩ := h
  exact ⟨A, n', c, zs, i, r.drewN n, s.draws n, h⟩
theorem Codes.drew {w : World} {g : Nat} (h : Codes w g) : Codes w.drew g := h.drewN 1
theorem Codes.alloc {w : World} {g : Nat} (h : Codes w g) (o : Obj) : Codes (w.alloc o) g := h.below (below1 w o)

theorem grown_draws {w w' : World} {row : Option Nat} (h : w.grownBy w' row) (k : Nat) : w.grownBy (w'.drewN k) row := ⟨h.os, h.tape, h.output, h.size, h.block⟩
theorem grown_set {w w' : World} {g : Nat} (h : w.grownBy w' (some g)) (k : Nat) (u : Value) : w.grownBy (w'.setCell ⟨g, k, none⟩ u) (some g) :=
  ⟨h.os, h.tape, h.output, by simpa [World.setCell] using h.size, fun i hi hne => (Below.heap_setCell w' ⟨g, k, none⟩ u i (by rintro rfl; exact hne rfl)).trans (h.block i hi hne)⟩
theorem grown_below {w w' : World} (h : Below w.heap.size w w') (row : Option Nat) : w.grownBy w' row := ⟨h.os, h.tape, h.output, h.size, fun i hi _ => h.block i hi⟩
/-- What lies below B is as it was, if only block g has turned and B is at most g. -/
theorem below_grown {B g : Nat} {w w' w'' : World} (h : Below B w w') (hg : w'.grownBy w'' (some g)) (hB : B ≤ g) (hs : B ≤ w'.heap.size) : Below B w w'' :=
  h.grown hg hs fun k hk => by injection hk with hk; omega

theorem take_cells (zs : List Int) (k : Nat) : (cellsU8 zs).take k = cellsU8 (zs.take k) := by simp [cellsU8]

set_option maxHeartbeats 400000 in
theorem new_any (A : Option Addr) (n c : Nat) (zs : List Int) (l : Nat) (w : World) (hA : Hid (A = none → c = 0)) (hn : Hid (zs.length = n)) (hnc : n ≤ c) (hm : n ≤ 9223372036854775807) (hl : l ≤ 1000000) (hs : Hid (Sees w w.heap.size A (cellsU8 zs))) (hz : Hid (∀ z ∈ zs, 0 ≤ z ∧ z ≤ 255)) :
    Calls Tryd.prog 23 #[.slice A n c, .int .i64 (l : Int)] w fun e w' => e = .returned (.pointer (some ⟨w.heap.size, 0, none⟩)) ∧ Codes w' w.heap.size ∧ Below w.heap.size w w' := by
  have key : ∀ (m : Nat) (A' : Option Addr) (c' : Nat), m ≤ n → A' = A → Codes (w.alloc (.cells #[.slice A' m c', .int .i64 0] 73)) w.heap.size := by
    rintro m A' c' hmn rfl
    refine ⟨A', m, c', zs.take m, 0, Row.new w _ _, ?_, by have := hn.out; simp; omega, by omega, fun z h => hz.out z (List.mem_of_mem_take h), by omega⟩
    rw [← take_cells]
    exact (hs.out.alloc (Nat.le_refl _) _).take m
  by_cases hlt : n ≤ l
  · go_enter Tryd.func23, Tryd.ntmps23
    go_wp2
    go_ret
    exact ⟨rfl, key _ _ _ (by omega) rfl, below1 _ _⟩
  · go_enter Tryd.func23, Tryd.ntmps23
    go_wp2
    go_ret
    exact ⟨rfl, key _ _ _ (by omega) rfl, below1 _ _⟩

set_option maxHeartbeats 400000 in
theorem left_any (g : Nat) (A : Option Addr) (n c i : Nat) (w : World) (hr : Hid (Row w g 73 [.slice A n c, .int .i64 (i : Int)])) (b : Bool) (hb : Hid (decide ((i : Int) < (n : Int)) = b)) :
    Calls Tryd.prog 43 #[.pointer (some ⟨g, 0, none⟩)] w fun e w' => e = .returned (.bool b) ∧ ∃ k, w' = w.drewN k := by
  have c0 := hr.out.cell (k := 0) rfl
  have c1 := hr.out.cell (k := 1) rfl
  go_enter Tryd.func43, Tryd.ntmps43
  go_wp2
  go_quiet (fail)
  go_wp2
  go_ret
  exact ⟨ret_bool (by rw [← hb.out]; simp), _, rfl⟩

def NextPost (g : Nat) (k : Int) (w : World) (e : Ending) (w' : World) : Prop := ∃ v : Int, e = .returned (.int .i64 v) ∧ 0 ≤ v ∧ v < k ∧ Codes w' g ∧ w.grownBy w' (some g) ∧ w'.heap.size = w.heap.size

set_option maxHeartbeats 800000 in
theorem next_any (g : Nat) (k : Int) (w : World) (h : Hid (Codes w g)) (hk : 1 ≤ k) (hk1 : k ≤ 4294967296) : Calls Tryd.prog 25 #[.pointer (some ⟨g, 0, none⟩), .int .i64 k] w (NextPost g k w) := by
  obtain ⟨A, n, c, zs, i, r, s, hn, hm, hz, hi⟩ := h.out
  have hr := hide r
  by_cases hlt : i < n
  · have cl := left_any g A n c i w hr true (decide_eq_true (by omega))
    obtain ⟨b, off, v, rfl, hbg, hcell, v0, v1, _⟩ := byte_at s (by omega : i < zs.length) hz
    have hs := hide s
    have Hn := hide hn
    have Hz := hide hz
    have x0 : 0 ≤ v * k := Int.mul_nonneg v0 (by omega)
    have x1 : v * k ≤ 255 * k := Int.mul_le_mul_of_nonneg_right v1 (by omega)
    have c0 := r.cell (k := 0) rfl
    have c1 := r.cell (k := 1) rfl
    have z1 := r.free 1
    have hi0 : (0 : Int) ≤ (i : Int) := by omega
    have hi1 : (i : Int) < (n : Int) := by omega
    clear s hz hn r
    go_enter Tryd.func25, Tryd.ntmps25
    go_wp2_with fail
    refine cl.mono ?_
    rintro e w' ⟨rfl, q, rfl⟩
    go_wp2_with fail
    go_quiet (fail)
    go_wp2_with fail
    go_ret
    refine ⟨_, rfl, by omega, by omega, ?_, ?_, by simp [World.setCell]⟩
    · refine ⟨some ⟨b, off, none⟩, n, c, zs, i + 1, ?_, ?_, Hn.out, hm, Hz.out, by omega⟩
      · exact ((hr.out.drewN _).set_ 1 _)
      · exact (hs.out.draws _).keep fun p hp => World.cell?_setCell_other _ _ _ _ (fun e => by subst e; simp at hp)
    · exact grown_set (grown_draws (World.grownBy.refl w _) _) 1 _
  · have cl := left_any g A n c i w hr false (decide_eq_false (by omega))
    clear s hn hz
    go_enter Tryd.func25, Tryd.ntmps25
    go_wp2_with fail
    refine cl.mono ?_
    rintro e w' ⟨rfl, q, rfl⟩
    go_wp2_with fail
    go_ret
    exact ⟨0, rfl, by omega, by omega, h.out.drewN q, grown_draws (World.grownBy.refl w _) q, rfl⟩
end Go.Proofs.YtidlnecgfgnllaaDoor
end

section
/-
  A store into a block that a call made. No function of the program is named here.
-/
namespace Go.Proofs.YtidlnecgfgnllaaDoor
open Go.RowKit

theorem grown_new1 {w w' : World} {g h : Nat} (hG : w.grownBy w' (some g)) (hh : w.heap.size ≤ h) (k : Nat) (u : Value) : w.grownBy (w'.setCell ⟨h, k, none⟩ u) (some g) :=
  ⟨hG.os, hG.tape, hG.output, by simpa [World.setCell] using hG.size, fun i hi hne => (Below.heap_setCell w' ⟨h, k, none⟩ u i (by simp; omega)).trans (hG.block i hi hne)⟩
end Go.Proofs.YtidlnecgfgnllaaDoor
end
