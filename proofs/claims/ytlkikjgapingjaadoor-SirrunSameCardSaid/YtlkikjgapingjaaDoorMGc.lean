import Derived.Test.YtlkikjgapingjaaDoorMGa
import Derived.ProofKit
import Derived.Deep.RegionHeld3
import Derived.Deep.DrawnRows
import Derived.BigQuiet
import Derived.Outline
import Derived.Maps.AppendAt
set_option linter.unusedVariables false
set_option linter.unusedSimpArgs false
section
/-
  The contract of extent.Power; what a right slot is. Conditions: those of the types.
-/
namespace Go.Proofs.YtlkikjgapingjaaDoor
open Go.RowKit

theorem ret_two {a b c d : Int} (h : a = b) (h' : c = d) : Ending.returned (.tuple #[.int .i64 a, .int .i64 c]) = .returned (.tuple #[.int .i64 b, .int .i64 d]) := by rw [h, h']
/-- An int. -/
def isI (n : Int) : Prop := -9223372036854775808 ≤ n ∧ n ≤ 9223372036854775807

theorem power_any (n : Int) (w : World) : Calls Tryd.prog 59 #[.int .i64 n] w fun e w' => e = .returned (.bool (powB n)) ∧ w = w' := by
  by_cases h0 : 1 ≤ n
  · by_cases h1 : n ≤ 16777216
    · have hb := bits_pow n h0 h1
      generalize powB n = b at hb ⊢
      go_enter Tryd.func59, Tryd.ntmps59
      go_wp2
      go_ret
      exact ⟨rfl, rfl⟩
    · have hp := hide (powB_out (n := n) (by omega))
      go_enter Tryd.func59, Tryd.ntmps59
      go_wp2
      go_ret
      exact ⟨ret_bool hp.out.symm, rfl⟩
  · have hp := hide (powB_out (n := n) (by omega))
    go_enter Tryd.func59, Tryd.ntmps59
    go_wp2
    go_ret
    exact ⟨ret_bool hp.out.symm, rfl⟩

/-- A size of a slot. -/
def szB (n : Int) : Bool := decide (n = 1 ∨ n = 2 ∨ n = 4 ∨ n = 8 ∨ n = 16)
/-- A slot is right. -/
def slotB (s a : Int) : Bool := szB s && powB a

end Go.Proofs.YtlkikjgapingjaaDoor
end

section
/-
  The contracts of extent.wrongSlot, and of slices.IndexFunc and slices.ContainsFunc at slots with it. Conditions: those of the types.
-/
namespace Go.Proofs.YtlkikjgapingjaaDoor
open Go.RowKit

theorem sz_pow {s : Int} : (powB s && decide (s ≤ 16)) = szB s := by
  rw [Bool.eq_iff_iff]
  simp only [Bool.and_eq_true, decide_eq_true_eq, szB]
  constructor
  · rintro ⟨h, h16⟩
    obtain ⟨k, hk, rfl⟩ := powB_iff.1 h
    rcases Nat.lt_or_ge k 5 with h5 | h5
    · rcases (show k = 0 ∨ k = 1 ∨ k = 2 ∨ k = 3 ∨ k = 4 by omega) with rfl | rfl | rfl | rfl | rfl <;> simp
    · have h2 : (2 : Nat) ^ 5 ≤ 2 ^ k := Nat.pow_le_pow_right (by omega) h5
      have e : ((2 : Int) ^ k) = ((2 ^ k : Nat) : Int) := by simp
      omega
  · rintro (rfl | rfl | rfl | rfl | rfl) <;> exact ⟨by decide, by decide⟩

set_option maxHeartbeats 400000 in
theorem wrongSlot_any (s a : Int) (w : World) : Calls Tryd.prog 52 #[pv s a] w fun e w' => e = .returned (.bool (!slotB s a)) ∧ Below w.heap.size w w' := by
  have c1 := power_any s
  have c2 := power_any a
  have hz := sz_pow (s := s)
  have hr : slotB s a = (szB s && powB a) := rfl
  rw [← hz] at hr
  have HR := hide hr
  clear hr hz
  cases h1 : powB s with
  | false =>
    rw [h1] at c1 HR
    clear h1
    go_enter Tryd.func52, Tryd.ntmps52
    go_wp2_with fail
    refine (c1 _).mono ?_
    rintro e w' ⟨rfl, rfl⟩
    go_wp2_with fail
    go_ret
    exact ⟨ret_bool (by rw [HR.out]; simp), below1 _ _⟩
  | true =>
    rw [h1] at c1 HR
    clear h1
    by_cases h16 : s ≤ 16
    · cases h2 : powB a with
      | false =>
        rw [h2] at c2 HR
        clear h2
        go_enter Tryd.func52, Tryd.ntmps52
        go_wp2_with fail
        refine (c1 _).mono ?_
        rintro e w' ⟨rfl, rfl⟩
        go_wp2_with fail
        refine (c2 _).mono ?_
        rintro e w' ⟨rfl, rfl⟩
        go_wp2_with fail
        go_ret
        exact ⟨ret_bool (by rw [HR.out]; simp), below1 _ _⟩
      | true =>
        rw [h2] at c2 HR
        clear h2
        go_enter Tryd.func52, Tryd.ntmps52
        go_wp2_with fail
        refine (c1 _).mono ?_
        rintro e w' ⟨rfl, rfl⟩
        go_wp2_with fail
        refine (c2 _).mono ?_
        rintro e w' ⟨rfl, rfl⟩
        go_wp2_with fail
        go_ret
        exact ⟨ret_bool (by rw [HR.out]; simp [h16]), below1 _ _⟩
    · have hg : 16 < s := by omega
      clear c2
      go_enter Tryd.func52, Tryd.ntmps52
      go_wp2_with fail
      refine (c1 _).mono ?_
      rintro e w' ⟨rfl, rfl⟩
      go_wp2_with fail
      go_ret
      exact ⟨ret_bool (by rw [HR.out]; simp [h16]), below1 _ _⟩

theorem any_hit {l : List (Int × Int)} {p : Int × Int → Bool} {k : Nat} (hk : k < l.length) (h : p l[k] = true) : l.any p = true := List.any_eq_true.2 ⟨l[k], List.getElem_mem hk, h⟩
theorem any_miss {l : List (Int × Int)} {p : Int × Int → Bool} (h : ∀ j (hj : j < l.length), p l[j] = false) : l.any p = false := by
  rw [List.any_eq_false]
  intro x hx
  obtain ⟨j, hj, rfl⟩ := List.getElem_of_mem hx
  rw [h j hj]
  simp

set_option maxHeartbeats 400000 in
theorem sidx_any (A : Option Addr) (n c : Nat) (l : List (Int × Int)) (w : World) (hn : Hid (l.length = n)) (hm : n ≤ 4611686018427387904) (hs : Hid (Sees w w.heap.size A (pcells l))) :
    Calls Tryd.prog 58 #[.slice A n c, .func (.func 52) #[] #[]] w fun e w' => ∃ i : Int, e = .returned (.int .i64 i) ∧ decide (0 ≤ i) = l.any (fun u => !slotB u.1 u.2) ∧ Below w.heap.size w w' := by
  go_enter Tryd.func58, Tryd.ntmps58
  go_wp2
  go_loopw [8] (fun s8 wr => ∃ k : Nat, k ≤ n ∧ s8 = .int .i64 k ∧ Hid (Below w.heap.size w wr) ∧ Hid (∀ j (hj : j < l.length), j < k → (!slotB l[j].1 l[j].2) = false)) (fun s8 _ => n - (intOf s8).toNat)
  case atStart => exact ⟨0, Nat.zero_le _, rfl, hide (Below.refl _ _), hide fun j _ hj => by omega⟩
  case round =>
    obtain ⟨k, hk, rfl, hb, hno⟩ := hrel
    by_cases hlt : k < n
    · have hltz : (k : Int) < (n : Int) := by omega
      have hkz : (0 : Int) ≤ (k : Int) := by omega
      have hkl : k < l.length := by have := hn.out; omega
      obtain ⟨b, off, rfl, hbB, c0, c1⟩ := pair_at (hs.out.below hb.out) hkl
      have cc := wrongSlot_any l[k].1 l[k].2
      have hv : ∃ v, (!slotB l[k].1 l[k].2) = v := ⟨_, rfl⟩
      obtain ⟨v, hv⟩ := hv
      rw [hv] at cc
      have HV := hide hv
      obtain ⟨x, hx⟩ : ∃ x, l[k].1 = x := ⟨_, rfl⟩
      obtain ⟨y, hy⟩ : ∃ y, l[k].2 = y := ⟨_, rfl⟩
      rw [hx] at c0 cc
      rw [hy] at c1 cc
      clear hv hx hy
      cases v with
      | true =>
        go_wp2_with fail
        refine (cc _).mono ?_
        rintro e w2 ⟨rfl, hb2⟩
        have HB := hide (below_call hb.out hb2)
        clear hb2
        go_wp2_with fail
        go_ret
        exact ⟨_, rfl, by rw [any_hit hkl HV.out]; simp, HB.out⟩
      | false =>
        go_wp2_with fail
        refine (cc _).mono ?_
        rintro e w2 ⟨rfl, hb2⟩
        have HB := hide (below_call hb.out hb2)
        clear hb2
        go_wp2_with fail
        go_roundw
        case rel =>
          refine ⟨k + 1, by omega, by go_num, HB, hide fun j hj hjk => ?_⟩
          by_cases e : j = k
          · subst e; exact HV.out
          · exact hno.out j hj (by omega)
        case measure => simp [intOf]; omega
    · obtain rfl : k = n := by omega
      go_wp2_with fail
      go_ret
      exact ⟨_, rfl, by rw [any_miss fun j hj => hno.out j hj (by have := hn.out; omega)]; simp, hb.out⟩

theorem scont_any (A : Option Addr) (n c : Nat) (l : List (Int × Int)) (w : World) (hn : Hid (l.length = n)) (hm : n ≤ 4611686018427387904) (hs : Hid (Sees w w.heap.size A (pcells l))) :
    Calls Tryd.prog 51 #[.slice A n c, .func (.func 52) #[] #[]] w fun e w' => e = .returned (.bool (l.any (fun u => !slotB u.1 u.2))) ∧ Below w.heap.size w w' := by
  go_enter Tryd.func51, Tryd.ntmps51
  go_wp2_with fail
  refine (sidx_any A n c l w hn hm hs).mono ?_
  rintro e w1 ⟨i, rfl, hi, hb1⟩
  have HI := hide hi
  clear hi
  go_wp2_with fail
  go_ret
  exact ⟨ret_bool HI.out, hb1⟩

end Go.Proofs.YtlkikjgapingjaaDoor
end

section
/-
  The contract of extent.Slots; what it and Align give. Conditions: those of the types; fewer than 2^62 slots.
-/
namespace Go.Proofs.YtlkikjgapingjaaDoor
open Go.RowKit

/-- The error of a list of slots. -/
def slotsE (l : List (Int × Int)) : Int := if 512 < l.length then 3 else if l.any (fun u => !slotB u.1 u.2) then 5 else 0
theorem slotsE_many {l : List (Int × Int)} (h : 512 < l.length) : slotsE l = 3 := by simp [slotsE, h]
theorem slotsE_few {l : List (Int × Int)} (h : l.length ≤ 512) : slotsE l = if l.any (fun u => !slotB u.1 u.2) then 5 else 0 := by simp only [slotsE]; rw [if_neg (by omega)]
/-- The greatest alignment of the first k slots, at least 16. -/
def alM (l : List (Int × Int)) (k : Nat) : Int := (l.take k).foldl (fun m u => max m u.2) 16
theorem alM_zero (l : List (Int × Int)) : alM l 0 = 16 := rfl
theorem alM_succ (l : List (Int × Int)) (k : Nat) (hk : k < l.length) : alM l (k + 1) = max (alM l k) l[k].2 := by
  unfold alM
  rw [List.take_add_one, List.getElem?_eq_getElem hk, List.foldl_append]
  rfl
/-- What Align gives. -/
def alignV (l : List (Int × Int)) : Int := if slotsE l = 0 then alM l l.length else 16

set_option maxHeartbeats 400000 in
theorem slots_any' (A : Option Addr) (n c : Nat) (l : List (Int × Int)) (w : World) (hn : Hid (l.length = n)) (hm : n ≤ 4611686018427387904) (hs : Hid (Sees w w.heap.size A (pcells l))) :
    Calls Tryd.prog 41 #[.slice A n c] w fun e w' => e = .returned (.int .i64 (slotsE l)) ∧ Below w.heap.size w w' := by
  by_cases h : n ≤ 512
  · have hc := scont_any A n c l w hn hm hs
    have he := hide (slotsE_few (l := l) (by have := hn.out; omega))
    obtain ⟨b, hb⟩ : ∃ b, l.any (fun u => !slotB u.1 u.2) = b := ⟨_, rfl⟩
    rw [hb] at hc he
    clear hb
    cases b with
    | true =>
      go_enter Tryd.func41, Tryd.ntmps41
      go_wp2_with fail
      refine hc.mono ?_
      rintro e w1 ⟨rfl, hb1⟩
      go_wp2_with fail
      go_ret
      exact ⟨ret_int (by rw [he.out]; rfl), hb1⟩
    | false =>
      go_enter Tryd.func41, Tryd.ntmps41
      go_wp2_with fail
      refine hc.mono ?_
      rintro e w1 ⟨rfl, hb1⟩
      go_wp2_with fail
      go_ret
      exact ⟨ret_int (by rw [he.out]; rfl), hb1⟩
  · have he := hide (slotsE_many (l := l) (by have := hn.out; omega))
    go_enter Tryd.func41, Tryd.ntmps41
    go_wp2_with fail
    go_ret
    exact ⟨ret_int he.out.symm, Below.refl _ _⟩

theorem slotsE_cases (l : List (Int × Int)) : slotsE l = 0 ∨ slotsE l = 3 ∨ slotsE l = 5 := by unfold slotsE; split <;> (try split) <;> simp

end Go.Proofs.YtlkikjgapingjaaDoor
end

section
/-
  The contracts of spillframedraw's New, Left, Next: a list of choices behind a pointer. 'Codes w g': block g is such an object, its list below it. Conditions: those of the types; a choice from 1 to 2^32 values.
-/
namespace Go.Proofs.YtlkikjgapingjaaDoor
open Go.RowKit

/-- Block g holds a list of choices and a place in it; the list lies below g. -/
def Codes (w : World) (g : Nat) : Prop :=
  ∃ (A : Option Addr) (n c : Nat) (zs : List Int) (i : Nat), Row w g 66 [.slice A n c, .int .i64 (i : Int)] ∧ Sees w g A (cellsU8 zs) ∧ zs.length = n ∧ n ≤ 9223372036854775807 ∧ (∀ z ∈ zs, 0 ≤ z ∧ z ≤ 255) ∧ i ≤ n
theorem Codes.lt {w : World} {g : Nat} (h : Codes w g) : g < w.heap.size := by
  obtain ⟨A, n, c, zs, i, r, _⟩ := h
  exact r.lt
theorem Codes.below {w w' : World} {g : Nat} (h : Codes w g) (hb : Below w.heap.size w w') : Codes w' g := by
  have hl := h.lt
  obtain ⟨A, n, c, zs, i, r, s, h⟩ := h
  exact ⟨A, n, c, zs, i, r.call hb, s.keep fun p hp => hb.cell (by omega), h⟩
theorem Codes.kept {w w' : World} {g : Nat} {row : Option Nat} (h : Codes w g) (hg : w.grownBy w' row) (hr : ∀ k, row = some k → g < k) : Codes w' g := by
  have hl := h.lt
  obtain ⟨A, n, c, zs, i, r, s, h⟩ := h
  refine ⟨A, n, c, zs, i, r.grown hg (fun e => ?_), s.keep fun p hp => ?_, h⟩
  · have := hr g e.symm
    omega
  · exact World.cell?_of_block (hg.block p.block (by omega) (fun e => by have := hr p.block e.symm; omega))
theorem Codes.drewN {w : World} {g : Nat} (h : Codes w g) (n : Nat) : Codes (w.drewN n) g := by
  obtain ⟨A, n', c, zs, i, r, s, h⟩ := h
  exact ⟨A, n', c, zs, i, r.drewN n, s.draws n, h⟩
theorem Codes.drew {w : World} {g : Nat} (h : Codes w g) : Codes w.drew g := h.drewN 1
theorem Codes.alloc {w : World} {g : Nat} (h : Codes w g) (o : Obj) : Codes (w.alloc o) g := h.below (below1 w o)

theorem grown_draws {w w' : World} {row : Option Nat} (h : w.grownBy w' row) (k : Nat) : w.grownBy (w'.drewN k) row := ⟨h.os, h.tape, h.output, h.size, h.block⟩
theorem grown_set {w w' : World} {g : Nat} (h : w.grownBy w' (some g)) (k : Nat) (u : Value) : w.grownBy (w'.setCell ⟨g, k, none⟩ u) (some g) :=
  ⟨h.os, h.tape, h.output, by simpa [World.setCell] using h.size, fun i hi hne => (Below.heap_setCell w' ⟨g, k, none⟩ u i (by rintro rfl; exact hne rfl)).trans (h.block i hi hne)⟩
theorem grown_below {w w' : World} (h : Below w.heap.size w w') (row : Option Nat) : w.grownBy w' row := ⟨h.os, h.tape, h.output, h.size, fun i hi _ => h.block i hi⟩
/-- What lies below B is as it was, if only block g has turned and B is at most g. -/
theorem below_grown {B g : Nat} {w w' w'' : World} (h : Below B w w') (hg : w'.grownBy w'' (some g)) (hB : B ≤ g) (hs : B ≤ w'.heap.size) : Below B w w'' :=
  h.grown hg hs fun k hk => by injection hk with hk; omega

theorem take_cells (zs : List Int) (k : Nat) : (cellsU8 zs).take k = cellsU8 (zs.take k) := by simp [cellsU8]

set_option maxHeartbeats 400000 in
theorem new_any (A : Option Addr) (n c : Nat) (zs : List Int) (l : Nat) (w : World) (hA : Hid (A = none → c = 0)) (hn : Hid (zs.length = n)) (hnc : n ≤ c) (hm : n ≤ 9223372036854775807) (hl : l ≤ 1000000) (hs : Hid (Sees w w.heap.size A (cellsU8 zs))) (hz : Hid (∀ z ∈ zs, 0 ≤ z ∧ z ≤ 255)) :
    Calls Tryd.prog 14 #[.slice A n c, .int .i64 (l : Int)] w fun e w' => e = .returned (.pointer (some ⟨w.heap.size, 0, none⟩)) ∧ Codes w' w.heap.size ∧ Below w.heap.size w w' := by
  have key : ∀ (m : Nat) (A' : Option Addr) (c' : Nat), m ≤ n → A' = A → Codes (w.alloc (.cells #[.slice A' m c', .int .i64 0] 66)) w.heap.size := by
    rintro m A' c' hmn rfl
    refine ⟨A', m, c', zs.take m, 0, Row.new w _ _, ?_, by have := hn.out; simp; omega, by omega, fun z h => hz.out z (List.mem_of_mem_take h), by omega⟩
    rw [← take_cells]
    exact (hs.out.alloc (Nat.le_refl _) _).take m
  by_cases hlt : n ≤ l
  · go_enter Tryd.func14, Tryd.ntmps14
    go_wp2
    go_ret
    exact ⟨rfl, key _ _ _ (by omega) rfl, below1 _ _⟩
  · go_enter Tryd.func14, Tryd.ntmps14
    go_wp2
    go_ret
    exact ⟨rfl, key _ _ _ (by omega) rfl, below1 _ _⟩

set_option maxHeartbeats 400000 in
theorem left_any (g : Nat) (A : Option Addr) (n c i : Nat) (w : World) (hr : Hid (Row w g 66 [.slice A n c, .int .i64 (i : Int)])) (b : Bool) (hb : Hid (decide ((i : Int) < (n : Int)) = b)) :
    Calls Tryd.prog 22 #[.pointer (some ⟨g, 0, none⟩)] w fun e w' => e = .returned (.bool b) ∧ ∃ k, w' = w.drewN k := by
  have c0 := hr.out.cell (k := 0) rfl
  have c1 := hr.out.cell (k := 1) rfl
  go_enter Tryd.func22, Tryd.ntmps22
  go_wp2
  go_quiet (fail)
  go_wp2
  go_ret
  exact ⟨ret_bool (by rw [← hb.out]; simp), _, rfl⟩

def NextPost (g : Nat) (k : Int) (w : World) (e : Ending) (w' : World) : Prop := ∃ v : Int, e = .returned (.int .i64 v) ∧ 0 ≤ v ∧ v < k ∧ Codes w' g ∧ w.grownBy w' (some g) ∧ w'.heap.size = w.heap.size

set_option maxHeartbeats 800000 in
theorem next_any (g : Nat) (k : Int) (w : World) (h : Hid (Codes w g)) (hk : 1 ≤ k) (hk1 : k ≤ 4294967296) : Calls Tryd.prog 16 #[.pointer (some ⟨g, 0, none⟩), .int .i64 k] w (NextPost g k w) := by
  obtain ⟨A, n, c, zs, i, r, s, hn, hm, hz, hi⟩ := h.out
  have hr := hide r
  by_cases hlt : i < n
  · have cl := left_any g A n c i w hr true (decide_eq_true (by omega))
    obtain ⟨b, off, v, rfl, hbg, hcell, v0, v1, _⟩ := byte_at s (by omega : i < zs.length) hz
    have hs := hide s
    have Hn := hide hn
    have Hz := hide hz
    have x0 : 0 ≤ v * k := Int.mul_nonneg v0 (by omega)
    have x1 : v * k ≤ 255 * k := Int.mul_le_mul_of_nonneg_right v1 (by omega)
    have c0 := r.cell (k := 0) rfl
    have c1 := r.cell (k := 1) rfl
    have z1 := r.free 1
    have hi0 : (0 : Int) ≤ (i : Int) := by omega
    have hi1 : (i : Int) < (n : Int) := by omega
    clear s hz hn r
    go_enter Tryd.func16, Tryd.ntmps16
    go_wp2_with fail
    refine cl.mono ?_
    rintro e w' ⟨rfl, q, rfl⟩
    go_wp2_with fail
    go_quiet (fail)
    go_wp2_with fail
    go_ret
    refine ⟨_, rfl, by omega, by omega, ?_, ?_, by simp [World.setCell]⟩
    · refine ⟨some ⟨b, off, none⟩, n, c, zs, i + 1, ?_, ?_, Hn.out, hm, Hz.out, by omega⟩
      · exact ((hr.out.drewN _).set_ 1 _)
      · exact (hs.out.draws _).keep fun p hp => World.cell?_setCell_other _ _ _ _ (fun e => by subst e; simp at hp)
    · exact grown_set (grown_draws (World.grownBy.refl w _) _) 1 _
  · have cl := left_any g A n c i w hr false (decide_eq_false (by omega))
    clear s hn hz
    go_enter Tryd.func16, Tryd.ntmps16
    go_wp2_with fail
    refine cl.mono ?_
    rintro e w' ⟨rfl, q, rfl⟩
    go_wp2_with fail
    go_ret
    exact ⟨0, rfl, by omega, by omega, h.out.drewN q, grown_draws (World.grownBy.refl w _) q, rfl⟩
end Go.Proofs.YtlkikjgapingjaaDoor
end
