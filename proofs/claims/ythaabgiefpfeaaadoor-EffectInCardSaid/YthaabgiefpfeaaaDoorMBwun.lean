import Derived.Test.YthaabgiefpfeaaaDoorMBsetd
import Derived.Test.YthaabgiefpfeaaaDoorMBtp
set_option linter.unusedVariables false
set_option linter.unusedSimpArgs false
section
/-
  The contract of a method of bitset.set[int] on whole sets: munion. Conditions: those of the types.
-/
namespace Go.Proofs.YthaabgiefpfeaaaDoor
open Go.RowKit
set_option maxHeartbeats 400000 in
theorem munion_any (g N M : Nat) (w : World) (h : Hid (SetB w g N)) : Calls Tryd.prog 32 #[.pointer (some ⟨g, 0, none⟩), sv (wd M)] w (WritePost g (N ||| M) w) := by
  go_enter Tryd.func32, Tryd.ntmps32
  go_wp2_with fail
  go_loopw [8] (fun i wr => Hid (MixRel (· ||| ·) g N M w i wr)) (fun i _ => 8 - (intOf i).toNat)
  case atStart => exact hide ⟨0, by omega, rfl, by rw [mix_start]; exact Row.alloc h.out _, World.grownBy_alloc _ _ _⟩
  case round =>
    obtain ⟨k, hk, rfl, hr, hg⟩ := hrel.out
    have HR := hide hr
    have HG := hide hg
    by_cases hlt : k < 8
    · have hi := index8 (wd M) hlt
      have hd : decide ((k : Int) < 8) = true := decide_eq_true (by omega)
      have c := Row.cell hr (w8_at (mixF (· ||| ·) N M k) hlt)
      rw [mix_at] at c
      have z := Row.free hr k
      have e := bits_or_u64_nat _ _ (wd_lt N k) (wd_lt M k)
      have K := hide (show (w8 (mixF (· ||| ·) N M k)).set k (.int .u64 ((wd N k ||| wd M k : Nat) : Int)) = w8 (mixF (· ||| ·) N M (k + 1)) from mix_set (· ||| ·) N M hlt)
      have hk0 : (0 : Int) ≤ (k : Int) := by omega
      have hk8 : (k : Int) < 8 := by omega
      generalize wd N k ||| wd M k = y at e K
      clear hrel hr hg
      go_wp2_with fail
      go_region
      all_goals
        go_wp2_with fail
        go_roundw
        case rel => exact hide (MixRel.next hlt HR K HG)
        case measure => simp [intOf]; omega
    · obtain rfl : k = 8 := by omega
      clear hr hg hrel
      go_wp2_with fail
      go_end0
      refine ⟨rfl, ?_, HG.out⟩
      have := HR.out
      rw [mix_end] at this
      show Row _ _ _ _
      rw [w8_congr (g := fun i => wd N i ||| wd M i) fun i _ => wd_or N M i]
      exact this

end Go.Proofs.YthaabgiefpfeaaaDoor
end

section
/-
  The contract of a function of package bitset, for any lists and in the reference's words: union. Conditions: those of the types; the table of TrailingZeros64 lies as its initialiser lays it.
-/
namespace Go.Proofs.YthaabgiefpfeaaaDoor
open Go.RowKit
set_option maxHeartbeats 400000 in
theorem top_union_any (A : Option Addr) (n c : Nat) (zs : List Int) (A' : Option Addr) (n' c' : Nat) (ys : List Int) (w : World) (h : Hid (Lst w A n zs)) (h' : Hid (Lst w A' n' ys)) (hT : Hid (Tab w)) : Calls Tryd.prog 19 #[.slice A n c, .slice A' n' c'] w (OutPost (els (bs zs ||| bs ys)) w) := by
  have c0 := h.out.of c
  obtain ⟨N0, eN⟩ : ∃ N0, bs zs = N0 := ⟨_, rfl⟩
  obtain ⟨M0, eM⟩ : ∃ M0, bs ys = M0 := ⟨_, rfl⟩
  rw [eN] at c0 ⊢
  rw [eM]
  have EM := hide eM
  clear eN eM
  go_enter Tryd.func19, Tryd.ntmps19
  go_wp2_with fail
  refine c0.mono ?_
  rintro e w1 ⟨rfl, hb1⟩
  clear c0
  have HB1 := hide hb1
  clear hb1
  go_wp2_with fail
  have hS1 := hide (SetB.made w1 N0)
  have HB2 := hide (below_call HB1.out (below1 w1 (.cells #[.int .u64 (wd N0 0 : Nat), .int .u64 (wd N0 1 : Nat), .int .u64 (wd N0 2 : Nat), .int .u64 (wd N0 3 : Nat), .int .u64 (wd N0 4 : Nat), .int .u64 (wd N0 5 : Nat), .int .u64 (wd N0 6 : Nat), .int .u64 (wd N0 7 : Nat)] 47)))
  have hg1 : w.heap.size ≤ w1.heap.size := HB1.out.size
  have h2 := h'.out.below HB2.out
  have c1 := h2.of c'
  rw [EM.out] at c1
  refine c1.mono ?_
  rintro e w2 ⟨rfl, hb2⟩
  have hS2 := hide (hS1.out.call hb2)
  have HB3 := hide (below_call HB2.out hb2)
  clear c1 hb2 h2 hS1 HB2
  go_wp2_with fail
  refine (munion_any w1.heap.size N0 M0 _ hS2).mono ?_
  rintro e w5 hP
  have HS5 := hide hP.2.1
  have HB5 := hide (below_write HB3.out hP hg1)
  obtain ⟨rfl, -, -⟩ := hP
  clear hS2 HB3
  go_wp2_with fail
  refine (list_any w1.heap.size (N0 ||| M0) _ HS5 (hide (hT.out.below HB5.out))).mono ?_
  rintro e w' hP
  obtain ⟨A2, c2, rfl, -, -⟩ := id hP
  have HP := hide (hP.lift HB5.out)
  clear hP HS5
  go_wp2_with fail
  go_ret
  exact HP.out
section
variable {A A' : Option Addr} {n n' : Nat} {a b r : List Int} {w : World}
theorem t_union (c c' : Nat) (h : Hid (Lst w A n a)) (h' : Hid (Lst w A' n' b)) (ha : Hid (Asc a)) (hb : Hid (Asc b)) (hT : Hid (Tab w)) (hr : Hid (unionL a b = r)) : Calls Tryd.prog 19 #[.slice A n c, .slice A' n' c'] w (OutPost r w) := by
  have := top_union_any A n c a A' n' c' b w h h' hT
  rwa [els_union ha.out hb.out, hr.out] at this
end
end Go.Proofs.YthaabgiefpfeaaaDoor
end
