/-
  The walk of the law VarintIsShortest: for every b it returns true, and what was in memory before the call is as it was. Conditions: those of the types.
-/
import Derived.Test.YtbfnbhjmbheokaaInt
import Derived.Test.YtbfnbhjmbheokaaRefput
import Derived.Test.YtbfnbhjmbheokaaSame
import Derived.Deep.RegionHeld3
namespace Go.Proofs.Ytbfnbhjmbheokaa
open Go.RowKit

def PutNil (u : Nat) (w : World) (e : Ending) (w' : World) : Prop := ∃ A c, e = .returned (.slice A (lenv u) c) ∧ Sees w' w'.heap.size A (cellsU8 (digsI u)) ∧ Below w.heap.size w w'
theorem put_nil (u : Nat) (w : World) (hu : u ≤ 18446744073709551615) : Calls Try.prog 10 #[.slice none 0 0, .int .u64 u] w (PutNil u w) := by
  refine (put_any none 0 0 [] u 0 w rfl (by omega) (Sees.nil_ _ _ _) (Nat.zero_le _) (by omega) (by omega)).mono ?_
  rintro e w' ⟨r, rfl, ho, hb⟩
  rw [Int.toNat_natCast, Nat.zero_add, List.nil_append] at ho
  obtain ⟨A, c, rfl, _, _⟩ := own_form ho
  exact ⟨A, c, rfl, Sees.own ho, hb⟩
theorem len_nat (u : Nat) (w : World) (hu : u ≤ 18446744073709551615) : Calls Try.prog 14 #[.int .u64 u] w fun e w' => e = .returned (.int .i64 (lenv u)) ∧ w = w' :=
  len_any u w (by omega) (by omega)

def DrawnTrue (w : World) (e : Ending) (w' : World) : Prop := e = .returned (.bool true) ∧ ∃ k, w' = w.drewN k
theorem same_digs (A A' : Option Addr) (n c c' u : Nat) (B : Nat) (w : World) (hu : Hid (lenv u = n)) (hn : n ≤ 1000) (h : Sees w w.heap.size A (cellsU8 (digsI u))) (h' : Sees w B A' (cellsU8 (digsI u))) (hB : B ≤ w.heap.size) :
    Calls Try.prog 9 #[.slice A n c, .slice A' n c'] w (DrawnTrue w) :=
  same_any A A' n c n c' (digsI u) w.heap.size w (by show _ = _; rw [digsI_length]; exact hu.out) rfl (by omega) h (h'.more hB)

set_option maxRecDepth 100000 in
set_option maxHeartbeats 400000 in
theorem shortlaw_walk (A : Option Addr) (n c : Nat) (zs : List Int) (w : World) (hA : Hid (A = none → c = 0)) (hn : Hid (zs.length = n)) (hm : n ≤ 9223372036854775807) (hnc : n ≤ c) (hs : Sees w w.heap.size A (cellsU8 zs)) (hz : Hid (∀ z ∈ zs, 0 ≤ z ∧ z ≤ 255)) :
    Calls Try.prog 6 #[.slice A n c] w fun e w' => e = .returned (.bool true) ∧ Below w.heap.size w w' := by
  by_cases hlt : n ≤ 1000
  · have hu := hide (uint_any A n c zs 0 _ w hA hn (by omega) hnc hs hz)
    have hr := uintAt_range zs 0 hz.out
    unfold UintPost at hu
    rcases hsc : scan zs 0 0 with ⟨v, e, er⟩
    have hat : uintAt zs 0 = if er = 0 then ((v : Int), (e : Int), 0) else (0, 0, (er : Int)) := by
      rw [uintAt, if_neg (by omega)]
      simp only [Int.toNat_zero, List.drop_zero, hsc]
      split <;> simp
    by_cases her : er = 0
    · subst her
      rw [if_pos rfl] at hat
      obtain ⟨u, hvu, heu, htake, hlen, _⟩ := scan_ok zs 0 0 v e hz.out hsc
      obtain rfl : v = u := by simpa using hvu
      obtain rfl : e = lenv v := by omega
      have hn' := hn.out
      have hv : v ≤ 18446744073709551615 := by have := hr.2.1; rw [hat] at this; simp only at this; omega
      rw [hat] at hu
      have hp := lenv_pos v
      have hle : lenv v ≤ n := by omega
      have hpart : Sees w w.heap.size A (cellsU8 (digsI v)) := hs.part (fun i y h => by
        rw [← htake] at h
        unfold cellsU8 at h ⊢
        rw [List.map_take, List.getElem?_take] at h
        split at h
        · exact h
        · cases h)
      have hbeq : ((lenv v : Int) == (lenv v : Int)) = true := beq_self_eq_true _
      obtain ⟨L, hL⟩ : ∃ L, L = lenv v := ⟨_, rfl⟩
      have HL := hide hL.symm
      clear hsc hat hr htake hlen hs hz hvu heu hA hn hn'
      rw [← hL] at hu hp hle hbeq
      clear hL
      go_enter Try.func6, Try.ntmps6
      go_wp2_with fail
      refine (awake_any _).mono ?_
      rintro e w' ⟨rfl, rfl⟩
      go_wp2_with fail
      refine (Hid.out hu).mono ?_
      rintro e w' ⟨rfl, rfl⟩
      unfold uintVal
      go_wp2_with fail
      have hLc : (L : Int) ≤ (c : Int) := by omega
      have hL0 : (0 : Int) ≤ (L : Int) := by omega
      have hL1000 : L ≤ 1000 := by omega
      have hg1 : decide ((1 : Int) ≤ (L : Int)) = true := by simp; omega
      have hg2 : decide (L ≤ n) = true := by simp; omega
      go_region_held3 (fun _ => True) (exact trivial) (first
        | (go_at_call 14; refine (len_nat v _ hv).mono ?_; rw [HL.out]; rintro e w' ⟨rfl, rfl⟩)
        | (go_at_call 10; refine (put_nil v _ hv).mono ?_; unfold PutNil; rw [HL.out]; rintro e w1 ⟨A1, c1, rfl, hs1, hb1⟩)
        | (go_at_call 9; refine (same_digs A1 A L c1 c v w.heap.size w1 HL hL1000 hs1 (hpart.draw.below hb1) hb1.size).mono ?_; unfold DrawnTrue; rintro e w' ⟨rfl, q, rfl⟩))
      go_wp2_with fail
      go_ret
      exact ⟨by simp, below_draws ((Below.refl w.heap.size w).drew.trans hb1) q⟩
    · rw [if_neg her] at hat
      rw [hat] at hu
      have hne : ((er : Int) != 0) = true := by rw [bne_iff_ne]; omega
      clear hsc hat hr hs hz hA hn
      go_enter Try.func6, Try.ntmps6
      go_wp2_with fail
      refine (awake_any _).mono ?_
      rintro e w' ⟨rfl, rfl⟩
      go_wp2_with fail
      refine (Hid.out hu).mono ?_
      rintro e w' ⟨rfl, rfl⟩
      unfold uintVal
      go_wp2_with fail
      go_ret
      exact ⟨by simp, Below.refl _ _⟩
  · go_enter Try.func6, Try.ntmps6
    go_wp2_with fail
    refine (awake_any _).mono ?_
    rintro e w' ⟨rfl, rfl⟩
    go_wp2_with fail
    go_ret
    exact ⟨by simp, Below.refl _ _⟩
end Go.Proofs.Ytbfnbhjmbheokaa
