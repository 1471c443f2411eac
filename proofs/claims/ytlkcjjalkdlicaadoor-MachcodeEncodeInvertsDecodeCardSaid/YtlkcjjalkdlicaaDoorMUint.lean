import Derived.Test.YtlkcjjalkdlicaaDoorMScan
set_option linter.unusedVariables false
set_option linter.unusedSimpArgs false
section
/-
  The contract of varint.Uint: it returns what 'uintAt' says, for every offset, and leaves memory alone. Condition: at most 2^62 bytes.
-/
namespace Go.Proofs.YtlkcjjalkdlicaaDoor
open Go.RowKit

def UintPost (zs : List Int) (a : Int) (w : World) (e : Ending) (w' : World) : Prop := e = .returned (uintVal (uintAt zs a)) ∧ w = w'

set_option maxRecDepth 100000 in
set_option maxHeartbeats 800000 in
theorem uint_out (A : Option Addr) (n c : Nat) (zs : List Int) (a : Int) (w : World) (hn : Hid (zs.length = n)) (hm : n ≤ 4611686018427387904) (h : a < 0 ∨ (n : Int) < a) :
    Calls Tryd.prog 131 #[.slice A n c, .int .i64 a] w (UintPost zs a w) := by
  have H := hide (uintAt_out (zs := zs) (a := a) (by have := hn.out; omega))
  rcases h with h | h
  · go_enter Tryd.func131, Tryd.ntmps131
    go_wp2
    go_ret3
    exact ⟨by rw [H.out]; rfl, rfl⟩
  · have h0 : ¬ a < 0 := by omega
    go_enter Tryd.func131, Tryd.ntmps131
    go_wp2
    go_ret3
    exact ⟨by rw [H.out]; rfl, rfl⟩

set_option maxRecDepth 100000 in
set_option maxHeartbeats 1600000 in
theorem uint_in (A : Option Addr) (n c : Nat) (zs : List Int) (a : Nat) (B : Nat) (w : World) (hA : Hid (A = none → c = 0)) (hn : Hid (zs.length = n)) (hm : n ≤ 4611686018427387904) (hnc : n ≤ c) (hs : Sees w B A (cellsU8 zs)) (hz : Hid (∀ z ∈ zs, 0 ≤ z ∧ z ≤ 255))
    (han : a ≤ n) :
    Calls Tryd.prog 131 #[.slice A n c, .int .i64 a] w (UintPost zs a w) := by
  by_cases hca : c = a
  · obtain rfl : a = n := by omega
    subst hca
    have H := hide (uintAt_err (zs := zs) (a := c) (e := 1) (by have := hn.out; omega) (by rw [List.drop_eq_nil_of_le (by have := hn.out; omega)]; rfl) (by decide))
    clear hA hs hz
    go_enter Tryd.func131, Tryd.ntmps131
    go_wp2
    go_loop [7, 22] (fun _ k => k = .int .i64 0) (fun _ _ => 0)
    case atStart => exact rfl
    case round =>
      subst hrel
      go_wp2
      go_ret3
      exact ⟨by rw [H.out]; rfl, rfl⟩
  · rcases A with _ | ad
    · exact absurd (hA.out rfl) (by omega)
    · clear hA
      go_enter Tryd.func131, Tryd.ntmps131
      go_wp2
      go_loop [4, 5, 6, 7, 22] (fun x y z a' k => ∃ (v : Nat) (j : Nat), v ≤ 9223372036854775807 ∧ j ≤ 9 ∧ j ≤ n - a ∧ x = .int .u64 0 ∧ y = .int .i64 0 ∧ z = .int .i64 0 ∧ a' = .int .u64 v ∧ k = .int .i64 j ∧ Hid (v < 128 ^ j) ∧ Hid (scan (zs.drop a) 0 0 = scan (zs.drop (a + j)) j v)) (fun _ _ _ _ k => n - (intOf k).toNat)
      case atStart => exact ⟨0, 0, by omega, by omega, by omega, rfl, rfl, rfl, rfl, rfl, by show _ < _; decide, rfl⟩
      case round =>
        obtain ⟨v, j, hv, hj, hjn, rfl, rfl, rfl, rfl, rfl, hvj, hsc⟩ := hrel
        by_cases hlt : j < n - a
        · obtain ⟨b, off, z, he, _, hc, z0, z1, hzk⟩ := byte_at (zs := zs) (k := a + j) hs (by have := hn.out; omega) hz.out
          injection he with he
          subst he
          have hc' : w.cell? ⟨b, off + a + j, none⟩ = some (.int .u8 z) := by rw [Nat.add_assoc]; exact hc
          have hd := hide (drop_head hzk.out)
          have hal := hide (show a ≤ zs.length by have := hn.out; omega)
          clear hs hc
          by_cases hj9 : j = 9
          · subst hj9
            by_cases hz1 : 1 < z
            · have H := hide (uintAt_err hal.out (by rw [hsc.out, hd.out]; exact scan_fmt9 hz1) (by decide))
              clear hsc
              go_wp2
              go_ret3
              exact ⟨by rw [H.out]; rfl, rfl⟩
            · by_cases hz0 : z = 0
              · subst hz0
                have H := hide (uintAt_err hal.out (by rw [hsc.out, hd.out]; exact scan_zero (by decide)) (by decide))
                clear hsc
                go_wp2
                go_ret3
                exact ⟨by rw [H.out]; rfl, rfl⟩
              · obtain rfl : z = 1 := by omega
                have H := hide (uintAt_ok hal.out (by rw [hsc.out, hd.out]; exact scan_last (by omega) (by omega) (by omega)))
                have ho := or_tenth v (by omega)
                clear hsc
                go_wp2
                go_ret3
                exact ⟨by rw [H.out]; rfl, rfl⟩
          · have hj8 : j ≤ 8 := by omega
            have hb9 : ((j : Int) == 9) = false := by rw [beq_eq_false_iff_ne]; omega
            by_cases hz128 : 128 ≤ z
            · have H := hide (show scan (zs.drop a) 0 0 = _ by rw [hsc.out, hd.out, scan_more (by omega) hz128])
              have ho := or_digit v j (z - 128) hvj.out (by omega) (by omega) hj8
              have hlt' := digit_lt (d := (z - 128).toNat) hvj.out (by omega)
              have h8 := pow128_8 hj8
              obtain ⟨v', hv'⟩ : ∃ v' : Nat, v' = v + (z - 128).toNat * 128 ^ j := ⟨_, rfl⟩
              rw [← hv'] at ho hlt'
              have hb' : v' ≤ 9223372036854775807 := by omega
              have hvj' := hide (show v' < 128 ^ (j + 1) by rw [pow128_succ]; exact hlt')
              rw [show z.toNat - 128 = (z - 128).toNat by omega, ← hv'] at H
              clear hsc hvj hlt' h8 hv'
              go_wp2
              go_round
              case rel => exact ⟨v', j + 1, hb', by omega, by omega, rfl, rfl, rfl, rfl, by go_num, hvj', H⟩
              case measure => simp [intOf]; omega
            · by_cases hzz : z = 0 ∧ 0 < j
              · obtain ⟨rfl, hj0⟩ := hzz
                have H := hide (uintAt_err hal.out (by rw [hsc.out, hd.out]; exact scan_zero hj0) (by decide))
                clear hsc hvj
                go_wp2
                go_ret3
                exact ⟨by rw [H.out]; rfl, rfl⟩
              · have H := hide (uintAt_ok hal.out (by rw [hsc.out, hd.out]; exact scan_last (by omega) (by omega) (by omega)))
                have ho := or_digit v j z hvj.out (by omega) (by omega) hj8
                obtain ⟨v', hv'⟩ : ∃ v' : Nat, v' = v + z.toNat * 128 ^ j := ⟨_, rfl⟩
                rw [← hv'] at ho H
                have hv0 : z = 0 → v' = v := by rintro rfl; simp [hv']
                have hvz := hide (show j = 0 → v < 1 by rintro rfl; exact hvj.out)
                clear hsc hvj hv'
                by_cases hz00 : z = 0
                · subst hz00
                  obtain rfl : j = 0 := by omega
                  obtain rfl : v = 0 := by have h := hvz.out; omega
                  obtain rfl := hv0 rfl
                  have ho2 : bits BinOp.or IntKind.u64 0 0 = 0 := by decide
                  rw [Nat.add_zero] at hc'
                  clear ho hv0
                  go_wp2
                  go_ret3
                  exact ⟨by rw [H.out]; rfl, rfl⟩
                · have hb0 : (z == 0) = false := by rw [beq_eq_false_iff_ne]; exact hz00
                  go_wp2
                  go_ret3
                  exact ⟨by rw [H.out]; rfl, rfl⟩
        · have H := hide (uintAt_err (zs := zs) (a := a) (e := 1) (by have := hn.out; omega) (by rw [hsc.out, List.drop_eq_nil_of_le (by have := hn.out; omega)]; rfl) (by decide))
          clear hs hsc
          go_wp2
          go_ret3
          exact ⟨by rw [H.out]; rfl, rfl⟩
end Go.Proofs.YtlkcjjalkdlicaaDoor
end
