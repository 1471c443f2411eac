/-
  The walk of the law VarintCrc: for every b, at and by it returns true, and what was in memory before the call is as it was. Conditions: those of the types.
-/
import Derived.Test.YtbfnbhjmbheokaaCrc
import Derived.Test.YtbfnbhjmbheokaaPut
namespace Go.Proofs.Ytbfnbhjmbheokaa
open Go.RowKit

theorem mod_nat (x : Int) (n : Nat) (w : World) (hn : 1 ≤ n) (hn2 : n ≤ 100000) : Calls Try.prog 16 #[.int .i64 x, .int .i64 n] w fun e w' => (∃ i : Nat, i < n ∧ e = .returned (.int .i64 i)) ∧ w = w' :=
  (mod_any x n w (by omega) (by omega)).mono fun e w' ⟨he, hw⟩ => ⟨⟨(x % n).toNat, by have := Int.emod_lt_of_pos x (show (0 : Int) < n by omega); have := Int.emod_nonneg x (show (n : Int) ≠ 0 by omega); omega, by
    rw [he, Int.toNat_of_nonneg (Int.emod_nonneg x (by omega))]⟩, hw⟩

theorem xor_u8 (z y : Int) (z0 : 0 ≤ z) (z1 : z ≤ 255) (y0 : 0 ≤ y) (y1 : y ≤ 255) : 0 ≤ bits BinOp.xor IntKind.u8 z (max y 1) ∧ bits BinOp.xor IntKind.u8 z (max y 1) ≤ 255 ∧ bits BinOp.xor IntKind.u8 z (max y 1) ≠ z := by
  obtain ⟨a, rfl⟩ := Int.eq_ofNat_of_zero_le z0
  obtain ⟨b, hb⟩ := Int.eq_ofNat_of_zero_le (show 0 ≤ max y 1 by omega)
  rw [hb, u8_xor_nat a b (by omega) (by omega)]
  have hx : a ^^^ b < 2 ^ 8 := Nat.xor_lt_two_pow (by omega) (by omega)
  refine ⟨by omega, by omega, fun h => ?_⟩
  have h1 : a ^^^ b = a ^^^ 0 := by rw [Nat.xor_zero]; omega
  have := xor_inj' h1
  omega

set_option maxRecDepth 100000 in
set_option maxHeartbeats 800000 in
theorem crclaw_walk (A : Option Addr) (n c : Nat) (zs : List Int) (x y : Int) (w : World) (hA : Hid (A = none → c = 0)) (hn : Hid (zs.length = n)) (hm : n ≤ 9223372036854775807) (hs : Sees w w.heap.size A (cellsU8 zs)) (hz : Hid (∀ z ∈ zs, 0 ≤ z ∧ z ≤ 255))
    (y0 : 0 ≤ y) (y1 : y ≤ 255) :
    Calls Try.prog 7 #[.slice A n c, .int .i64 x, .int .u8 y] w fun e w' => e = .returned (.bool true) ∧ Below w.heap.size w w' := by
  obtain ⟨i0, hi, hz0, hz1, hz2⟩ := info_parts Try.info5
  by_cases hlt : n ≤ 2000
  · by_cases h0 : n = 0
    · subst h0
      obtain rfl : zs = [] := List.eq_nil_of_length_eq_zero hn.out
      go_enter Try.func7, Try.ntmps7
      go_wp2_with fail
      refine (awake_any _).mono ?_
      rintro e w' ⟨rfl, rfl⟩
      go_wp2_with fail
      refine (crc_any A 0 c [] _ _ rfl (by omega) hs hz).mono ?_
      rintro e w' ⟨rfl, rfl⟩
      have hc0 : (4294967295 - crcAll 4294967295 [] : Nat) = 0 := rfl
      rw [hc0]
      go_wp2_with fail
      go_ret
      exact ⟨by simp, Below.refl _ _⟩
    · go_enter Try.func7, Try.ntmps7
      go_wp2_with fail
      refine (awake_any _).mono ?_
      rintro e w' ⟨rfl, rfl⟩
      go_wp2_with fail
      refine (crc_any A n c zs _ _ hn (by omega) hs hz).mono ?_
      rintro e w' ⟨rfl, rfl⟩
      go_wp2_with (at_builtin; refine wpList_append_sees rfl (.const (.slice none 0 0)) (.tmp 26) 22 rfl w.heap.size 5 i0 (.int .u8 0) 1 Try.underlying22 hi hz0 hz1 hz2 rfl _ 0 [] rfl (World.ownsRow_nil _ _ _ _) _ A n c (cellsU8 zs) rfl hA (by simpa [cellsU8] using hn.out) hs (one_u8 zs) (by unfold maxLen; omega) (by omega) (Nat.le_refl _) ?_)
      intro out1 w1 hown1 hg1
      have hb1 : Below w.heap.size w w1 := below_append (Below.refl _ _) (World.ownsRow_nil w w.heap.size 5 1) (Nat.le_refl _) hg1 (Nat.le_refl _)
      clear hg1
      obtain ⟨g, c1, rfl, hg, hgl, hnc, hcm⟩ := own_block hown1 (by omega)
      go_wp2_with fail
      refine (mod_nat x n _ (by omega) (by omega)).mono ?_
      rintro e w' ⟨⟨i, hin, rfl⟩, rfl⟩
      have hzi := hide (List.getElem?_eq_getElem (l := zs) (i := i) (by have := hn.out; omega))
      obtain ⟨z, hzz⟩ : ∃ z, z = zs[i]'(by have := hn.out; omega) := ⟨_, rfl⟩
      have hzb := hz.out z (by rw [hzz]; exact List.getElem_mem _)
      rw [← hzz] at hzi
      have hc : w1.cell? ⟨g, i, none⟩ = some (.int .u8 z) := by rw [hown1.cellAt i (by omega)]; simp [cellsU8, hzi.out]
      have hf : w1.frozen? ⟨g, i, none⟩ = false := hown1.frozenAt i
      obtain ⟨hzlo, hzhi⟩ := hzb
      clear hzz
      go_wp2_with fail
      have hx8 := xor_u8 z y hzlo hzhi y0 y1
      obtain ⟨z', hz'⟩ : ∃ z', z' = bits BinOp.xor IntKind.u8 z (max y 1) := ⟨_, rfl⟩
      rw [← hz'] at hx8 ⊢
      clear hz' hc hf
      obtain ⟨hz0', hz1', hzn⟩ := hx8
      have hst := hown1.stored i (.int .u8 z')
      have hown2 : (w1.setCell ⟨g, i, none⟩ (.int .u8 z')).ownsRow w.heap.size 5 1 (.slice (some ⟨g, 0, none⟩) n c1) n (cellsU8 (zs.set i z')) := by
        have := hst.1
        rwa [show (cellsU8 zs).set i (.int .u8 z') = cellsU8 (zs.set i z') by simp [cellsU8, List.map_set]] at this
      have hb2 := hb1.setCell (p := ⟨g, i, none⟩) hg (.int .u8 z')
      have hg2 : g < (w1.setCell ⟨g, i, none⟩ (.int .u8 z')).heap.size := by simpa [World.setCell] using hgl
      clear hst hown1 hb1 hgl
      obtain ⟨W2, hW2⟩ : ∃ W, W = w1.setCell ⟨g, i, none⟩ (.int .u8 z') := ⟨_, rfl⟩
      rw [← hW2] at hown2 hb2 hg2 ⊢
      clear hW2
      refine (refcrc_any A n c zs _ W2 hn (by omega) (hs.below hb2) hz).mono ?_
      rintro e w' ⟨rfl, rfl⟩
      go_wp2_with fail
      refine (crc_any _ n c1 (zs.set i z') _ W2 (by show _ = _; simpa using hn.out) (by omega) (Sees.own hown2) (hide (fun u hu => ?_))).mono ?_
      · rcases List.mem_or_eq_of_mem_set hu with h | h
        · exact hz.out u h
        · subst h; exact ⟨hz0', hz1'⟩
      rintro e w' ⟨rfl, rfl⟩
      have hne := crc_set_ne zs i z z' hzi.out hz.out hz0' hz1' hzn
      have hl1 := crcAll_lt zs 4294967295 (by omega) hz.out
      have hl2 := crcAll_lt (zs.set i z') 4294967295 (by omega) (fun u hu => by
        rcases List.mem_or_eq_of_mem_set hu with h | h
        · exact hz.out u h
        · subst h; exact ⟨hz0', hz1'⟩)
      generalize crcAll 4294967295 zs = c2 at *
      generalize crcAll 4294967295 (zs.set i z') = c3 at *
      have hne' : (((4294967295 - c3 : Nat) : Int) != ((4294967295 - c2 : Nat) : Int)) = true := by
        rw [bne_iff_ne]; omega
      clear hne hl1 hl2
      go_wp2_with fail
      go_ret
      exact ⟨by simp, hb2⟩
  · go_enter Try.func7, Try.ntmps7
    go_wp2_with fail
    refine (awake_any _).mono ?_
    rintro e w' ⟨rfl, rfl⟩
    go_wp2_with fail
    go_ret
    exact ⟨by simp, Below.refl _ _⟩
end Go.Proofs.Ytbfnbhjmbheokaa
