/-
  The walk of the law VarintPut: for every b, v and n it returns true, and what was in memory before the call is as it was. Conditions: those of the types (v a uint64, n an int; a slice of at most 2^47 bytes).
-/
import Derived.Test.YtbfnbhjmbheokaaRefput
import Derived.Test.YtbfnbhjmbheokaaSame
namespace Go.Proofs.Ytbfnbhjmbheokaa
open Go.RowKit

set_option maxRecDepth 100000 in
set_option maxHeartbeats 800000 in
theorem putlaw_walk (A : Option Addr) (n c : Nat) (zs : List Int) (v k : Int) (w : World) (hA : Hid (A = none → c = 0)) (hn : Hid (zs.length = n)) (hm : n ≤ 9223372036854775807) (hs : Sees w w.heap.size A (cellsU8 zs))
    (h0 : 0 ≤ v) (hv : v ≤ 18446744073709551615) (k0 : -9223372036854775808 ≤ k) (hk : k ≤ 9223372036854775807) :
    Calls Try.prog 3 #[.slice A n c, .int .u64 v, .int .i64 k] w fun e w' => e = .returned (.bool true) ∧ Below w.heap.size w w' := by
  by_cases hlt : n ≤ 1000
  · go_enter Try.func3, Try.ntmps3
    go_wp2_with fail
    refine (awake_any _).mono ?_
    rintro e w' ⟨rfl, rfl⟩
    go_wp2_with fail
    refine (put_any A n c zs v _ w hn (by omega) hs (Nat.le_refl _) h0 hv).mono ?_
    rintro e w1 ⟨r1, rfl, ho1, hb1⟩
    obtain ⟨A1, c1, rfl, _, _⟩ := own_form ho1
    have hs1 := hs.below hb1
    go_wp2_with fail
    refine (refput_any A n c zs v _ w1 hA hn (by omega) hs1 h0 hv).mono ?_
    rintro e w2 ⟨r2, rfl, ho2, hb2⟩
    obtain ⟨A2, c2, rfl, _, _⟩ := own_form ho2
    have hl10 := lenv_le v.toNat (by omega)
    go_wp2_with fail
    refine (same_any A1 A2 _ c1 _ c2 (zs ++ digsI v.toNat) _ w2 (by show _ = _; have := hn.out; simp [digsI_length]; omega) rfl (by omega) (((Sees.own ho1).below hb2).more hb2.size) (Sees.own ho2)).mono ?_
    rintro e w3 ⟨rfl, q, rfl⟩
    have hb3 := below_draws (below_step hb1 hb2) q
    have hs3 : Sees (w2.drewN q) w.heap.size A (cellsU8 zs) := (hs1.below (hb2.mono hb1.size)).draws q
    clear hs1 ho1 ho2 hb1 hb2
    obtain ⟨W3, hW3⟩ : ∃ W, W = w2.drewN q := ⟨_, rfl⟩
    rw [← hW3] at hb3 hs3 ⊢
    clear hW3
    go_wp2_with fail
    refine (putint_any A n c zs k _ W3 hn (by omega) hs3 hb3.size k0 hk).mono ?_
    rintro e w4 ⟨r4, rfl, ho4, hb4⟩
    obtain ⟨A4, c4, rfl, _, _⟩ := own_form ho4
    go_wp2_with fail
    refine (refputint_any A n c zs k _ w4 hA hn (by omega) (hs3.below (hb4.mono hb3.size)) k0 hk).mono ?_
    rintro e w5 ⟨r5, rfl, ho5, hb5⟩
    obtain ⟨A5, c5, rfl, _, _⟩ := own_form ho5
    have hl10' := lenv_le (zz k).toNat (by have := zz_hi k k0 hk; omega)
    go_wp2_with fail
    refine (same_any A4 A5 _ c4 _ c5 (zs ++ digsI (zz k).toNat) _ w5 (by show _ = _; have := hn.out; simp [digsI_length]; omega) rfl (by omega) (((Sees.own ho4).below hb5).more hb5.size) (Sees.own ho5)).mono ?_
    rintro e w6 ⟨rfl, q6, rfl⟩
    have hb6 := below_draws (below_step (below_step hb3 hb4) hb5) q6
    obtain ⟨W6, hW6⟩ : ∃ W, W = w5.drewN q6 := ⟨_, rfl⟩
    rw [← hW6] at hb6 ⊢
    clear hW6 ho4 ho5 hb3 hb4 hb5 hs3
    go_wp2_with fail
    refine (len_any v _ h0 hv).mono ?_
    rintro e w' ⟨rfl, rfl⟩
    go_wp2_with fail
    refine (reflen_any v _ h0 hv).mono ?_
    rintro e w' ⟨rfl, rfl⟩
    go_wp2_with fail
    go_ret
    exact ⟨by simp, hb6⟩
  · go_enter Try.func3, Try.ntmps3
    go_wp2_with fail
    refine (awake_any _).mono ?_
    rintro e w' ⟨rfl, rfl⟩
    go_wp2_with fail
    go_ret
    exact ⟨by simp, Below.refl _ _⟩
end Go.Proofs.Ytbfnbhjmbheokaa
