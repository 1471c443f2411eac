import Derived.Test.YtlkcjjalkdlicaaDoorMZscn
import Derived.Test.YtlkcjjalkdlicaaDoorMZawk
set_option linter.unusedVariables false
set_option linter.unusedSimpArgs false
section
/-
  SirrunEqualsStepByStep's law, walked: one more unit of fuel is one more step. Conditions: those of the types; the table of shapes lies as it is laid.
-/
namespace Go.Proofs.YtlkcjjalkdlicaaDoor
open Go.RowKit

theorem run_step {F : Pg} {inp : List Nat} {i : Nat} (h : ∀ j < i, (runM F inp j).kind = 4) : (runM F inp i).steps = i := by
  by_cases hk : (runM F inp i).kind = 4
  · exact (run_fuel hk).1
  · cases i with
    | zero => exact absurd (run_zero F inp).1 hk
    | succ i => exact one_more (h i (by omega)) hk
theorem run_E {F : Pg} (h : pgE F = 0) (n : Nat) (hn : n ≤ 100000) : runE F (n : Int) = 0 := by
  unfold runE
  rw [if_neg (by rw [h]; decide), if_pos (by omega)]
theorem run_S {F : Pg} (h : pgE F = 0) (inp : List Nat) (n : Nat) (hn : n ≤ 100000) : runS F inp (n : Int) = runM F inp n := by
  unfold runS
  rw [if_pos (run_E h n hn), Int.toNat_natCast]

set_option maxRecDepth 100000 in
set_option maxHeartbeats 4000000 in
theorem stelaw_walk (A0 : Option Addr) (n0 c0 : Nat) (zs : List Int) (w : World)
    (hA : Hid (A0 = none → c0 = 0)) (hn : Hid (zs.length = n0)) (hnc : n0 ≤ c0) (hm : n0 ≤ 9223372036854775807) (hs : Hid (Sees w w.heap.size A0 (cellsU8 zs))) (hz : Hid (∀ z ∈ zs, 0 ≤ z ∧ z ≤ 255)) (hSh : Hid (Shapes w)) :
    Calls Tryd.prog 4 #[.slice A0 n0 c0] w fun e w' => e = .returned (.bool true) ∧ Below w.heap.size w w' := by
  go_enter Tryd.func4, Tryd.ntmps4
  go_wp2_with fail
  refine (awake8_any w hSh).mono ?_
  rintro e w1 ⟨rfl, hb1⟩
  have HB1 := hide hb1
  have HS1 := hide ((hs.out.below hb1).more hb1.size)
  have HSh1 := hide (hSh.out.below hb1)
  clear hb1
  go_wp2_with fail
  refine (scene_any A0 n0 c0 zs w1 hA hn hnc hm HS1 hz).mono ?_
  rintro e w2 ⟨A, n, c, hs2, F, Ai, ni, ci, inp, fu, lw, g, rfl, hpg, hE, him, hI, hIv, hfu, hb2⟩
  obtain ⟨W, hW⟩ : ∃ V, w2.alloc (.cells #[.slice A n c] 26) = V := ⟨_, rfl⟩
  have HW := hide hW
  have hb3 := below1 w2 (.cells #[.slice A n c] 26)
  rw [hW] at hb3
  obtain ⟨B, hB⟩ : ∃ B, w2.heap.size = B := ⟨_, rfl⟩
  have HBB := hide hB
  have RB := hide (show Row W B 26 [.slice A n c] by rw [← hW, ← hB]; exact Row.new w2 _ _)
  have HP := hide ((hpg.below hb3).more hb3.size (Nat.le_refl _))
  have HI := hide ((hI.below hb3).more hb3.size)
  have HIv := hide hIv
  have HIm := hide him
  have HE := hide hE
  have HSh := hide ((HSh1.out.below hb2).below hb3)
  have HBW := hide (HB1.out.trans ((hb2.trans (hb3.mono hb2.size)).mono HB1.out.size))
  clear hpg hE him hI hIv hfu hb2 hb3 hW hB HSh1 HS1 HB1
  go_upto_region 4 with (fail)
  rw [HW.out, HBB.out]
  clear HW HBB
  go_wp2_with fail
  go_loopw [7, 8, 9] (fun iv _ _ wr => ∃ i : Nat, i ≤ 60 ∧ iv = .int .i64 (i : Int) ∧ Hid (Below W.heap.size W wr) ∧ Hid (∀ j < i, (runM F inp j).kind = 4)) (fun iv _ _ _ => 60 - (intOf iv).toNat)
  case atStart => exact ⟨0, Nat.zero_le _, rfl, hide (Below.refl _ _), hide (fun j hj => by omega)⟩
  case round =>
    obtain ⟨i, hil, rfl, HBl, HK⟩ := hrel
    by_cases hlt : i < 60
    · have hlz : (i : Int) < 60 := by omega
      have hiz : (0 : Int) ≤ (i : Int) := by omega
      have p0 := (RB.out.below HBl.out RB.out.lt).cell (k := 0) rfl
      have cr := out_any F inp (i : Int) Ai ni ci wr HIm (hide ((HI.out.below HBl.out).more HBl.out.size)) HIv (hide ((HP.out.below HBl.out).more HBl.out.size (Nat.le_refl _))) (hide (HSh.out.below HBl.out))
      have HST := hide (run_step HK.out)
      go_wp2_with fail
      refine cr.mono ?_
      rintro e w4 ⟨vt, rfl, hto, hb4⟩
      have HY : (ocells (runS F inp (i : Int)) vt).toArray = #[.int .i64 (runM F inp i).kind, .int .u64 (runM F inp i).code, .int .u64 (lo (runM F inp i).res), .int .u64 (hi (runM F inp i).res), vt, .int .i64 (i : Int)] := by rw [run_S HE.out inp i (by omega)]; unfold ocells; rw [HST.out]
      rw [HY, run_E HE.out i (by omega)]
      have HK2 := hide (show ∀ K, (runM F inp i).kind = K → K = 4 → ∀ j < i + 1, (runM F inp j).kind = 4 from fun K hK h4 j hj => by
        by_cases hji : j < i
        · exact HK.out j hji
        · obtain rfl : j = i := by omega
          rw [hK]; exact h4)
      have HZ := hide (show ∀ K, (runM F inp i).kind = K → K ≠ 4 → i ≠ 0 from fun K hK h4 h0 => by
        subst h0
        exact h4 (by rw [← hK]; exact (run_zero F inp).1))
      obtain ⟨K, hK⟩ : ∃ K, (runM F inp i).kind = K := ⟨_, rfl⟩
      have HK3 := hide (HK2.out K hK)
      have HZ3 := hide (HZ.out K hK)
      rw [hK]
      generalize (runM F inp i).code = C
      generalize lo (runM F inp i).res = L
      generalize hi (runM F inp i).res = R
      obtain ⟨W3, hst, RO, hb5⟩ := put_outcome w4 [.int .i64 K, .int .u64 C, .int .u64 L, .int .u64 R, vt, .int .i64 (i : Int)] rfl (outl_one (own_oneCell hto))
      have x0 := RO.cell (k := 0) rfl
      have x5 := RO.cell (k := 5) rfl
      have HB3 := hide (HBl.out.trans ((hb4.trans (hb5.mono hb4.size)).mono HBl.out.size))
      clear HY hto RO hb4 hb5 cr HK2 HZ hK HST p0
      by_cases hk4 : K = 4
      · have HK5 := hide (HK3.out hk4)
        subst hk4
        clear HK3 HZ3
        go_wp2_with (first | (refine wpList_store_whole 36 (.tmp 8) (.tmp 28) rfl rfl _ _ rfl rfl hst ?_) | fail)
        go_roundw
        case rel => exact ⟨i + 1, by omega, by go_num, HB3, HK5⟩
        case measure => simp [intOf]; omega
      · have hi0 := HZ3.out hk4
        have hiz2 : ¬ ((i : Int) = 0) := by omega
        have kk : (K == 4) = false := by simpa using hk4
        have HF := hide (HBW.out.trans (HB3.out.mono HBW.out.size))
        clear HK3 HZ3
        go_wp2_with (first | (refine wpList_store_whole 36 (.tmp 8) (.tmp 28) rfl rfl _ _ rfl rfl hst ?_) | fail)
        exact bodyPost_ret (results_tmp rfl _ _ _) rfl ⟨rfl, HF.out⟩
    · have hi2 : i = 60 := by omega
      subst hi2
      have HF := hide (HBW.out.trans (HBl.out.mono HBW.out.size))
      go_wp2_with fail
      go_ret
      exact ⟨rfl, HF.out⟩
end Go.Proofs.YtlkcjjalkdlicaaDoor
end
