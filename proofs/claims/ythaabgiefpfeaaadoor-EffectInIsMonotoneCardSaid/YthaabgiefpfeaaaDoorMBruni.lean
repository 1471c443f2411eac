import Derived.Test.YthaabgiefpfeaaaDoorMLsam
import Derived.Test.YthaabgiefpfeaaaDoorMBref
set_option linter.unusedVariables false
set_option linter.unusedSimpArgs false
section
/-
  The contract of the reference's union on lists of ints. Condition: at most 2^40 ints.
-/
namespace Go.Proofs.YthaabgiefpfeaaaDoor
open Go.RowKit
set_option maxHeartbeats 1000000 in
theorem runion_any (A : Option Addr) (n c : Nat) (zs : List Int) (A' : Option Addr) (n' c' : Nat) (ys : List Int) (w : World) (h : Hid (Lst w A n zs)) (h' : Hid (Lst w A' n' ys)) (hA : Hid (A = none → c = 0)) (hz : Hid (Asc zs)) (hm : n' ≤ 1099511627776) :
    Calls Tryd.prog 12 #[.slice A n c, .slice A' n' c'] w (OutPost (unionL zs ys) w) := by
  obtain ⟨i0, hi, hz0, hz1, hz2⟩ := info_parts infoI
  have hzl := hz.out.length
  have hn1 : n ≤ 512 := by have := h.out.len; omega
  have ho0 : w.ownsRow w.heap.size 3 1 (.slice none 0 0) 0 [] := ⟨rfl, .inl ⟨rfl, rfl⟩⟩
  have HLn := hide (show (cellsI zs).length = n by rw [cellsI_length]; exact h.out.len)
  have HSe := hide h.out.see
  go_enter Tryd.func12, Tryd.ntmps12
  go_wp2_with (at_builtin; refine wpList_append_sees rfl (.const (.slice none 0 0)) (.tmp 7) 30 rfl w.heap.size 3 i0 (.int .i64 0) 8 Tryd.underlying30 hi hz0 hz1 hz2 rfl _ 0 [] rfl ho0 w.heap.size A n c (cellsI zs) rfl hA HLn.out HSe.out (cellsI_one zs) (by unfold maxLen; omega) (by omega) (Nat.le_refl _) ?_)
  intro v' w4 ho4 hg4
  have HL0 : Hid (IntRel w zs v' w4) := hide ⟨by
    have := HLn.out
    rw [cellsI_length] at this
    subst this
    simpa using ho4, (Below.refl w.heap.size w).grown hg4 (Nat.le_refl _) (fun k hk => by cases hk)⟩
  obtain ⟨A1, c1, rfl, -, -⟩ := HL0.out.out
  clear ho0 ho4 hg4 HLn HSe
  go_wp2_with fail
  go_loopw [5, 6] (fun v i wr => Hid (UniRel w zs ys n' v i wr)) (fun _ i _ => n' - (intOf i).toNat)
  case atStart => exact hide ⟨0, zs, A1, c1, by omega, rfl, rfl, rfl, hz.out, HL0.out⟩
  case round =>
    clear HL0
    obtain ⟨k, l, A2, c2, hk, rfl, rfl, hlf, hasc, hL⟩ := hrel.out
    have HL := hide hL
    have HF := hide hlf
    have HA := hide hasc
    have hl1 := hasc.length
    clear hrel hL hlf hasc
    by_cases hlt : k < n'
    · have l1 : k < ys.length := by have := h'.out.len; omega
      obtain ⟨b1, o1, rfl, _, hc0⟩ := int_at h'.out.see l1
      have hc1 := keep_cellB HL.out.2 hc0
      have HK := hide (take_snoc l1)
      generalize ys[k] = y at hc0 hc1 HK
      clear l1 hc0
      have hle := h'.out.le
      go_wp2_with fail
      refine (radd_any A2 l.length c2 l y wr (hide (HL.out.lst (by omega) (asc_rng HA.out))) (by omega)).mono ?_
      rintro e w' hP
      obtain ⟨A3, c3, rfl, hL2⟩ := (hP.lift HL.out.2).rel
      have R : Hid (UniRel w zs ys n' (.slice A3 (addL l y).length c3) (.int .i64 ((k : Int) + 1)) w') := hide ⟨k + 1, addL l y, A3, c3, by omega, by go_num, rfl, by rw [HK.out, unionL_snoc, HF.out], addL_asc HA.out, hL2⟩
      clear hP hL2 hc1
      go_wp2_with fail
      go_roundw
      case rel => exact R
      case measure => simp [intOf]; omega
    · obtain rfl : k = n' := by omega
      have HK := hide (show l = unionL zs ys by rw [HF.out, List.take_of_length_le (by have := h'.out.len; omega)])
      have HP2 := hide HL.out.post
      go_wp2_with fail
      go_ret
      rw [← HK.out]
      exact HP2.out
section
variable {A A' : Option Addr} {n n' : Nat} {a b r : List Int} {w : World}
theorem s_union (c c' : Nat) (h : Hid (Lst w A n a)) (h' : Hid (Lst w A' n' b)) (hA : Hid (A = none → c = 0)) (ha : Hid (Asc a)) (hb : Hid (Asc b)) (hr : Hid (unionL a b = r)) : Calls Tryd.prog 12 #[.slice A n c, .slice A' n' c'] w (OutPost r w) := by
  have := runion_any A n c a A' n' c' b w h h' hA ha (by have := few h' hb; omega)
  rwa [hr.out] at this
end
end Go.Proofs.YthaabgiefpfeaaaDoor
end
