/-
  The contracts of Uint and Int on both sides, at every offset: 'uintAt', and its value's zigzag inverse. Condition: at most 2^62 bytes.
-/
import Derived.Test.YtbfnbhjmbheokaaRefuint
namespace Go.Proofs.Ytbfnbhjmbheokaa
open Go.RowKit

theorem uintAt_range (zs : List Int) (a : Int) (hz : ∀ z ∈ zs, 0 ≤ z ∧ z ≤ 255) : 0 ≤ (uintAt zs a).1 ∧ (uintAt zs a).1 ≤ 18446744073709551615 ∧ ((uintAt zs a).2.2 ≠ 0 → (uintAt zs a).1 = 0 ∧ (uintAt zs a).2.1 = 0) := by
  rw [uintAt]
  split
  · simp
  · have hle := scan_le (zs.drop a.toNat) 0 0 (fun z h => hz z (List.mem_of_mem_drop h)) (by omega) (by decide)
    split
    · refine ⟨by show (0 : Int) ≤ ((scan (zs.drop a.toNat) 0 0).1 : Nat); omega, by show ((scan (zs.drop a.toNat) 0 0).1 : Int) ≤ _; omega, fun h => absurd rfl h⟩
    · simp

theorem uint_any (A : Option Addr) (n c : Nat) (zs : List Int) (a : Int) (B : Nat) (w : World) (hA : Hid (A = none → c = 0)) (hn : Hid (zs.length = n)) (hm : n ≤ 4611686018427387904) (hnc : n ≤ c) (hs : Sees w B A (cellsU8 zs)) (hz : Hid (∀ z ∈ zs, 0 ≤ z ∧ z ≤ 255)) :
    Calls Try.prog 17 #[.slice A n c, .int .i64 a] w (UintPost zs a w) := by
  by_cases h : a < 0 ∨ (n : Int) < a
  · exact uint_out A n c zs a w hn hm h
  · obtain ⟨k, rfl⟩ := Int.eq_ofNat_of_zero_le (show 0 ≤ a by omega)
    exact uint_in A n c zs k B w hA hn hm hnc hs hz (by omega)
theorem refuint_any (A : Option Addr) (n c : Nat) (zs : List Int) (a : Int) (B : Nat) (w : World) (hn : Hid (zs.length = n)) (hm : n ≤ 4611686018427387904) (hs : Sees w B A (cellsU8 zs)) (hz : Hid (∀ z ∈ zs, 0 ≤ z ∧ z ≤ 255)) :
    Calls Try.prog 18 #[.slice A n c, .int .i64 a] w (UintPost zs a w) := by
  by_cases h : a < 0 ∨ (n : Int) < a
  · exact refuint_out A n c zs a w hn hm h
  · obtain ⟨k, rfl⟩ := Int.eq_ofNat_of_zero_le (show 0 ≤ a by omega)
    exact refuint_in A n c zs k B w hn hm hs hz (by omega)

def intVal (r : Int × Int × Int) : Value := .tuple #[.int .i64 (unzz r.1), .int .i64 r.2.1, .int .i64 r.2.2]
def IntPost (zs : List Int) (a : Int) (w : World) (e : Ending) (w' : World) : Prop := e = .returned (intVal (uintAt zs a)) ∧ w = w'

set_option maxRecDepth 100000 in
set_option maxHeartbeats 800000 in
theorem int_any (A : Option Addr) (n c : Nat) (zs : List Int) (a : Int) (B : Nat) (w : World) (hA : Hid (A = none → c = 0)) (hn : Hid (zs.length = n)) (hm : n ≤ 4611686018427387904) (hnc : n ≤ c) (hs : Sees w B A (cellsU8 zs)) (hz : Hid (∀ z ∈ zs, 0 ≤ z ∧ z ≤ 255)) :
    Calls Try.prog 19 #[.slice A n c, .int .i64 a] w (IntPost zs a w) := by
  have hr := uintAt_range zs a hz.out
  have hu := hide (uint_any A n c zs a B w hA hn hm hnc hs hz)
  unfold IntPost
  unfold UintPost at hu
  generalize uintAt zs a = r at *
  obtain ⟨v, x, e⟩ := r
  obtain ⟨h0, h1, h2⟩ := hr
  simp only at h0 h1 h2
  clear hA hn hm hnc hs hz
  by_cases he : e = 0
  · subst he
    clear h2
    go_enter Try.func19, Try.ntmps19
    go_wp2_with fail
    refine (Hid.out hu).mono ?_
    rintro e' w' ⟨rfl, rfl⟩
    unfold uintVal
    go_wp2_with fail
    refine (unzigzag_any v _ h0 h1).mono ?_
    rintro e' w' ⟨rfl, rfl⟩
    go_wp2_with fail
    go_ret3
    exact ⟨rfl, rfl⟩
  · obtain ⟨rfl, rfl⟩ := h2 he
    have hb : (e != 0) = true := by rw [bne_iff_ne]; exact he
    go_enter Try.func19, Try.ntmps19
    go_wp2_with fail
    refine (Hid.out hu).mono ?_
    rintro e' w' ⟨rfl, rfl⟩
    unfold uintVal
    go_wp2_with fail
    go_ret3
    exact ⟨rfl, rfl⟩

theorem unzz_ref (v : Int) (h0 : 0 ≤ v) (h1 : v ≤ 18446744073709551615) : bits BinOp.xor IntKind.i64 (v / 2) (-(v % 2)) = unzz v := by
  rcases (show v % 2 = 0 ∨ v % 2 = 1 by omega) with h | h
  · rw [h, show (-(0 : Int)) = 0 from rfl, xor_zero_i64 _ (by omega) (by omega)]
    unfold unzz; rw [if_neg (by omega)]
  · rw [h, xor_ones_i64 _ (by omega) (by omega)]
    unfold unzz; rw [if_pos h]

set_option maxRecDepth 100000 in
set_option maxHeartbeats 800000 in
theorem refint_any (A : Option Addr) (n c : Nat) (zs : List Int) (a : Int) (B : Nat) (w : World) (hn : Hid (zs.length = n)) (hm : n ≤ 4611686018427387904) (hs : Sees w B A (cellsU8 zs)) (hz : Hid (∀ z ∈ zs, 0 ≤ z ∧ z ≤ 255)) :
    Calls Try.prog 20 #[.slice A n c, .int .i64 a] w (IntPost zs a w) := by
  have hr := uintAt_range zs a hz.out
  have hu := hide (refuint_any A n c zs a B w hn hm hs hz)
  unfold IntPost
  unfold UintPost at hu
  generalize uintAt zs a = r at *
  obtain ⟨v, x, e⟩ := r
  obtain ⟨h0, h1, h2⟩ := hr
  simp only at h0 h1 h2
  have hand := and_one_u64 v h0 h1
  have hun := hide (unzz_ref v h0 h1)
  clear hn hm hs hz h2
  go_enter Try.func20, Try.ntmps20
  go_wp2_with fail
  refine (Hid.out hu).mono ?_
  rintro e' w' ⟨rfl, rfl⟩
  unfold uintVal
  go_wp2_with fail
  go_ret3
  exact ⟨by simp only [intVal]; rw [← hun.out]; rfl, rfl⟩
end Go.Proofs.Ytbfnbhjmbheokaa
