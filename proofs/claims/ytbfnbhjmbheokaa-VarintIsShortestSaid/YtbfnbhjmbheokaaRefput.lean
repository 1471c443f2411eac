/-
  The contracts of the reference's PutUint, and of PutInt on both sides: the bytes given, then the digits. Conditions: at most 2^40 bytes come in; v is a uint64 (n an int).
-/
import Derived.Test.YtbfnbhjmbheokaaPut
namespace Go.Proofs.Ytbfnbhjmbheokaa
open Go.RowKit

set_option maxRecDepth 100000 in
set_option maxHeartbeats 800000 in
theorem refput_any (A : Option Addr) (n c : Nat) (zs : List Int) (v : Int) (B : Nat) (w : World) (hA : Hid (A = none → c = 0)) (hn : Hid (zs.length = n)) (hm : n ≤ 1099511627776) (hs : Sees w B A (cellsU8 zs)) (h0 : 0 ≤ v) (hv : v ≤ 18446744073709551615) :
    Calls Try.prog 11 #[.slice A n c, .int .u64 v] w fun e w' => ∃ r, e = .returned r ∧ w'.ownsRow w.heap.size 5 1 r (n + lenv v.toNat) (cellsU8 (zs ++ digsI v.toNat)) ∧ Below w.heap.size w w' := by
  obtain ⟨i0, hi, hz0, hz1, hz2⟩ := info_parts Try.info5
  have hl10 := lenv_le v.toNat (by omega)
  go_enter Try.func11, Try.ntmps11
  go_wp2_with (at_builtin; refine wpList_append_sees rfl (.const (.slice none 0 0)) (.tmp 6) 22 rfl w.heap.size 5 i0 (.int .u8 0) 1 Try.underlying22 hi hz0 hz1 hz2 rfl _ 0 [] rfl (World.ownsRow_nil _ _ _ _) B A n c (cellsU8 zs) rfl hA (by simpa [cellsU8] using hn.out) hs (one_u8 zs) (by unfold maxLen; omega) (by omega) (Nat.le_refl _) ?_)
  intro out1 w1 hown1 hg1
  have hb1 : Below w.heap.size w w1 := below_append (Below.refl _ _) (World.ownsRow_nil w w.heap.size 5 1) (Nat.le_refl _) hg1 (Nat.le_refl _)
  clear hg1 hs hA
  go_wp2_with fail
  go_loopw [1, 5] (fun a out wr => PutRel w 5 n zs v.toNat a out wr) (fun a _ _ => (intOf a).toNat)
  case atStart => exact ⟨v, 0, [], h0, hv, by omega, rfl, by simpa using hown1, hb1, by omega, by simp⟩
  case round =>
    obtain ⟨u, j, ds, hu0, hu1, hj, rfl, hown, hb, hl', hd'⟩ := hrel
    have hl := hide hl'
    have hd := hide hd'
    have hp := lenv_pos u.toNat
    have hj9 : j ≤ 9 := by omega
    have hbs : w.heap.size ≤ wr.heap.size := hb.size
    clear hl' hd' hp
    by_cases hlt : 128 ≤ u
    · have hor := or_128 u hu0
      go_wp2_with (at_builtin; refine wpList_append_own _ rfl (.tmp 10) (.tmp 14) 22 rfl w.heap.size 5 i0 (.int .u8 0) 1 1 Try.underlying22 hi hz0 hz1 hz2 rfl (by decide) _ (n + j) (cellsU8 (zs ++ ds)) rfl (hown.alloc _) ⟨wr.heap.size, 0, none⟩ 1 1 [.int .u8 (u % 128 + 128)] rfl rfl (one_new _ _ _) (one_byte _) (by unfold maxLen; omega) (by omega) (by simp; omega) ?_)
      intro v' w' hown' hg' _
      have hb' := below_append (hb.alloc hbs _) (hown.alloc _) (Nat.le_refl _) hg' (by simp; omega)
      have hR := PutRel.more hlt hu1 hj9 hown' hb' hl.out hd.out
      clear hown' hb' hor hown hb
      go_wp2
      go_roundw
      case rel => exact hR
      case measure => simp [intOf]; omega
    · have hor : u % 256 = u := by omega
      go_wp2_with (at_builtin; refine wpList_append_own _ rfl (.tmp 18) (.tmp 21) 22 rfl w.heap.size 5 i0 (.int .u8 0) 1 1 Try.underlying22 hi hz0 hz1 hz2 rfl (by decide) _ (n + j) (cellsU8 (zs ++ ds)) rfl (hown.alloc _) ⟨wr.heap.size, 0, none⟩ 1 1 [.int .u8 u] rfl rfl (one_new _ _ _) (one_byte _) (by unfold maxLen; omega) (by omega) (by simp; omega) ?_)
      intro v' w' hown' hg' _
      have hb' := below_append (hb.alloc hbs _) (hown.alloc _) (Nat.le_refl _) hg' (by simp; omega)
      have hF := PutRel.last (by omega) hown' hl.out hd.out
      clear hown' hor hown hb
      go_wp2
      go_ret
      exact ⟨_, rfl, hF, hb'⟩

set_option maxRecDepth 100000 in
set_option maxHeartbeats 400000 in
theorem putint_any (A : Option Addr) (n c : Nat) (zs : List Int) (v : Int) (B : Nat) (w : World) (hn : Hid (zs.length = n)) (hm : n ≤ 1099511627776) (hs : Sees w B A (cellsU8 zs)) (hB : Hid (B ≤ w.heap.size)) (h0 : -9223372036854775808 ≤ v) (hv : v ≤ 9223372036854775807) :
    Calls Try.prog 12 #[.slice A n c, .int .i64 v] w fun e w' => ∃ r, e = .returned r ∧ w'.ownsRow w.heap.size 5 1 r (n + lenv (zz v).toNat) (cellsU8 (zs ++ digsI (zz v).toNat)) ∧ Below w.heap.size w w' := by
  go_enter Try.func12, Try.ntmps12
  go_wp2_with fail
  refine (zigzag_any v _ h0 hv).mono ?_
  rintro e w' ⟨rfl, rfl⟩
  go_wp2_with fail
  refine (put_any A n c zs (zz v) B _ hn hm hs hB (zz_lo v) (zz_hi v h0 hv)).mono ?_
  rintro e w' ⟨r, rfl, ho, hb⟩
  go_wp2
  go_ret
  exact ⟨_, rfl, ho, hb⟩

set_option maxRecDepth 100000 in
set_option maxHeartbeats 400000 in
theorem refputint_any (A : Option Addr) (n c : Nat) (zs : List Int) (v : Int) (B : Nat) (w : World) (hA : Hid (A = none → c = 0)) (hn : Hid (zs.length = n)) (hm : n ≤ 1099511627776) (hs : Sees w B A (cellsU8 zs)) (h0 : -9223372036854775808 ≤ v) (hv : v ≤ 9223372036854775807) :
    Calls Try.prog 13 #[.slice A n c, .int .i64 v] w fun e w' => ∃ r, e = .returned r ∧ w'.ownsRow w.heap.size 5 1 r (n + lenv (zz v).toNat) (cellsU8 (zs ++ digsI (zz v).toNat)) ∧ Below w.heap.size w w' := by
  go_enter Try.func13, Try.ntmps13
  go_wp2_with fail
  refine (refzigzag_any v _ h0 hv).mono ?_
  rintro e w' ⟨rfl, rfl⟩
  go_wp2_with fail
  refine (refput_any A n c zs (zz v) B _ hA hn hm hs (zz_lo v) (zz_hi v h0 hv)).mono ?_
  rintro e w' ⟨r, rfl, ho, hb⟩
  go_wp2
  go_ret
  exact ⟨_, rfl, ho, hb⟩
end Go.Proofs.Ytbfnbhjmbheokaa
