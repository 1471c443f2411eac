import Derived.Test.YthaabgiefpfeaaaMHren
import Derived.Deep.RegionHeld3
set_option linter.unusedVariables false
set_option linter.unusedSimpArgs false
section
/-
  The contract of chapter 15's reference's Renamed: the instruction with renamed slots. Conditions: those of the types.
-/
namespace Go.Proofs.Ythaabgiefpfeaaa
open Go.RowKit

set_option maxHeartbeats 2000000 in
theorem rrn_15 (a b c m : Int) (A : Option Addr) (n cp : Nat) (zs : List Int) (w : World) (h : Hid (Lst w A n zs)) : Calls Try.prog 16 #[iv 15 a b c m, .slice A n cp] w (RnPost 15 a b c m zs w) := by
  obtain ⟨W, hW, hb⟩ := RnB.start w 15 a b c m
  have HW := hide hW
  have cp1 := fun W (hB : Below w.heap.size w W) => rrenamed_any A n cp zs a W (hide (h.out.below hB))
  have cp2 := fun W (hB : Below w.heap.size w W) => rrenamed_any A n cp zs b W (hide (h.out.below hB))
  have CP1 := hide cp1
  have CP2 := hide cp2
  unfold RnPost
  rw [rnA_off (show defB 15 = false from rfl), rnB_on (show useB 15 = true from rfl)]
  generalize plZ zs a = pa at CP1
  generalize plZ zs b = pb at CP2 ⊢
  clear hW cp1 cp2 h
  have H0 := hide hb
  have x0 := hb.i.cell (k := 0) rfl
  have x1 := hb.i.cell (k := 1) rfl
  have x2 := hb.i.cell (k := 2) rfl
  have f1 := hb.i.free 1
  have f2 := hb.i.free 2
  clear hb
  go_enter Try.func16, Try.ntmps16
  go_upto_region 1 with (fail)
  rw [HW.out]
  clear HW
  obtain ⟨V, hV⟩ : ∃ V, W.setCell ⟨w.heap.size, 2, none⟩ (.int .i64 pb) = V := ⟨_, rfl⟩
  have HV := hide (show RnB w V 15 a pb c m [.int .i64 0, .int .i64 0, .int .i64 0, .int .i64 0, .int .u64 0] by rw [← hV]; exact H0.out.setB pb)
  have HE := hide hV
  obtain ⟨V3, hV3, hR3, hB3⟩ := HV.out.fin
  have HV3 := hide hV3
  have HR3 := hide hR3
  have HB3 := hide hB3
  clear hV hV3 hR3 hB3
  go_wp2_with fail
  refine (CP2.out _ H0.out.b).mono ?_
  rintro e w1 ⟨rfl, rfl⟩
  go_upto_region 8 with (fail)
  rw [HE.out]
  clear x0 x1 x2 f1 f2
  have x0 := HV.out.i.cell (k := 0) rfl
  have x1 := HV.out.i.cell (k := 1) rfl
  have x2 := HV.out.i.cell (k := 2) rfl
  have x3 := HV.out.i.cell (k := 3) rfl
  have x4 := HV.out.i.cell (k := 4) rfl
  have y0 := HV.out.r.cell (k := 0) rfl
  have y1 := HV.out.r.cell (k := 1) rfl
  have y2 := HV.out.r.cell (k := 2) rfl
  have y3 := HV.out.r.cell (k := 3) rfl
  have y4 := HV.out.r.cell (k := 4) rfl
  have g0 := HV.out.r.free 0
  have g1 := HV.out.r.free 1
  have g2 := HV.out.r.free 2
  have g3 := HV.out.r.free 3
  have g4 := HV.out.r.free 4
  go_wp2_with fail
  rw [HV3.out]
  have z0 := HR3.out.cell (k := 0) rfl
  have z1 := HR3.out.cell (k := 1) rfl
  have z2 := HR3.out.cell (k := 2) rfl
  have z3 := HR3.out.cell (k := 3) rfl
  have z4 := HR3.out.cell (k := 4) rfl
  exact bodyPost_ret (v := iv 15 a pb c m) (by simp [results, Try.results16, go_sem, z0, z1, z2, z3, z4]) rfl ⟨rfl, HB3.out⟩
set_option maxHeartbeats 2000000 in
theorem rrn_16 (a b c m : Int) (A : Option Addr) (n cp : Nat) (zs : List Int) (w : World) (h : Hid (Lst w A n zs)) : Calls Try.prog 16 #[iv 16 a b c m, .slice A n cp] w (RnPost 16 a b c m zs w) := by
  obtain ⟨W, hW, hb⟩ := RnB.start w 16 a b c m
  have HW := hide hW
  have cp1 := fun W (hB : Below w.heap.size w W) => rrenamed_any A n cp zs a W (hide (h.out.below hB))
  have cp2 := fun W (hB : Below w.heap.size w W) => rrenamed_any A n cp zs b W (hide (h.out.below hB))
  have CP1 := hide cp1
  have CP2 := hide cp2
  unfold RnPost
  rw [rnA_on (show defB 16 = true from rfl), rnB_off (show useB 16 = false from rfl)]
  generalize plZ zs a = pa at CP1 ⊢
  generalize plZ zs b = pb at CP2
  clear hW cp1 cp2 h
  have H0 := hide hb
  have x0 := hb.i.cell (k := 0) rfl
  have x1 := hb.i.cell (k := 1) rfl
  have x2 := hb.i.cell (k := 2) rfl
  have f1 := hb.i.free 1
  have f2 := hb.i.free 2
  clear hb
  go_enter Try.func16, Try.ntmps16
  go_upto_region 1 with (fail)
  rw [HW.out]
  clear HW
  obtain ⟨V, hV⟩ : ∃ V, W.setCell ⟨w.heap.size, 1, none⟩ (.int .i64 pa) = V := ⟨_, rfl⟩
  have HV := hide (show RnB w V 16 pa b c m [.int .i64 0, .int .i64 0, .int .i64 0, .int .i64 0, .int .u64 0] by rw [← hV]; exact H0.out.setA pa)
  have HE := hide hV
  obtain ⟨V3, hV3, hR3, hB3⟩ := HV.out.fin
  have HV3 := hide hV3
  have HR3 := hide hR3
  have HB3 := hide hB3
  clear hV hV3 hR3 hB3
  go_wp2_with fail
  refine (CP1.out _ H0.out.b).mono ?_
  rintro e w1 ⟨rfl, rfl⟩
  go_upto_region 8 with (fail)
  rw [HE.out]
  clear x0 x1 x2 f1 f2
  have x0 := HV.out.i.cell (k := 0) rfl
  have x1 := HV.out.i.cell (k := 1) rfl
  have x2 := HV.out.i.cell (k := 2) rfl
  have x3 := HV.out.i.cell (k := 3) rfl
  have x4 := HV.out.i.cell (k := 4) rfl
  have y0 := HV.out.r.cell (k := 0) rfl
  have y1 := HV.out.r.cell (k := 1) rfl
  have y2 := HV.out.r.cell (k := 2) rfl
  have y3 := HV.out.r.cell (k := 3) rfl
  have y4 := HV.out.r.cell (k := 4) rfl
  have g0 := HV.out.r.free 0
  have g1 := HV.out.r.free 1
  have g2 := HV.out.r.free 2
  have g3 := HV.out.r.free 3
  have g4 := HV.out.r.free 4
  go_wp2_with fail
  rw [HV3.out]
  have z0 := HR3.out.cell (k := 0) rfl
  have z1 := HR3.out.cell (k := 1) rfl
  have z2 := HR3.out.cell (k := 2) rfl
  have z3 := HR3.out.cell (k := 3) rfl
  have z4 := HR3.out.cell (k := 4) rfl
  exact bodyPost_ret (v := iv 16 pa b c m) (by simp [results, Try.results16, go_sem, z0, z1, z2, z3, z4]) rfl ⟨rfl, HB3.out⟩
set_option maxHeartbeats 2000000 in
theorem rrn_o (o a b c m : Int) (A : Option Addr) (n cp : Nat) (zs : List Int) (w : World) (h : Hid (Lst w A n zs)) (hno : o ≠ 15 ∧ o ≠ 16 ∧ o ≠ 17) : Calls Try.prog 16 #[iv o a b c m, .slice A n cp] w (RnPost o a b c m zs w) := by
  obtain ⟨W, hW, hb⟩ := RnB.start w o a b c m
  have HW := hide hW
  have cp1 := fun W (hB : Below w.heap.size w W) => rrenamed_any A n cp zs a W (hide (h.out.below hB))
  have cp2 := fun W (hB : Below w.heap.size w W) => rrenamed_any A n cp zs b W (hide (h.out.below hB))
  have CP1 := hide cp1
  have CP2 := hide cp2
  unfold RnPost
  rw [rnA_off (defB_no hno), rnB_off (useB_no hno)]
  generalize plZ zs a = pa at CP1
  generalize plZ zs b = pb at CP2
  clear hW cp1 cp2 h
  have H0 := hide hb
  have x0 := hb.i.cell (k := 0) rfl
  have x1 := hb.i.cell (k := 1) rfl
  have x2 := hb.i.cell (k := 2) rfl
  have f1 := hb.i.free 1
  have f2 := hb.i.free 2
  clear hb
  have e1 : (o == 15) = false := by simpa using hno.1
  have e2 : (o == 16) = false := by simpa using hno.2.1
  have e3 : (o == 17) = false := by simpa using hno.2.2
  clear hno
  go_enter Try.func16, Try.ntmps16
  go_upto_region 1 with (fail)
  rw [HW.out]
  clear HW
  obtain ⟨V, hV⟩ : ∃ V, W = V := ⟨_, rfl⟩
  have HV := hide (show RnB w V o a b c m [.int .i64 0, .int .i64 0, .int .i64 0, .int .i64 0, .int .u64 0] by rw [← hV]; exact H0.out)
  have HE := hide hV
  obtain ⟨V3, hV3, hR3, hB3⟩ := HV.out.fin
  have HV3 := hide hV3
  have HR3 := hide hR3
  have HB3 := hide hB3
  clear hV hV3 hR3 hB3
  go_upto_region 8 with (fail)
  rw [HE.out]
  clear x0 x1 x2 f1 f2
  have x0 := HV.out.i.cell (k := 0) rfl
  have x1 := HV.out.i.cell (k := 1) rfl
  have x2 := HV.out.i.cell (k := 2) rfl
  have x3 := HV.out.i.cell (k := 3) rfl
  have x4 := HV.out.i.cell (k := 4) rfl
  have y0 := HV.out.r.cell (k := 0) rfl
  have y1 := HV.out.r.cell (k := 1) rfl
  have y2 := HV.out.r.cell (k := 2) rfl
  have y3 := HV.out.r.cell (k := 3) rfl
  have y4 := HV.out.r.cell (k := 4) rfl
  have g0 := HV.out.r.free 0
  have g1 := HV.out.r.free 1
  have g2 := HV.out.r.free 2
  have g3 := HV.out.r.free 3
  have g4 := HV.out.r.free 4
  go_wp2_with fail
  rw [HV3.out]
  have z0 := HR3.out.cell (k := 0) rfl
  have z1 := HR3.out.cell (k := 1) rfl
  have z2 := HR3.out.cell (k := 2) rfl
  have z3 := HR3.out.cell (k := 3) rfl
  have z4 := HR3.out.cell (k := 4) rfl
  exact bodyPost_ret (v := iv o a b c m) (by simp [results, Try.results16, go_sem, z0, z1, z2, z3, z4]) rfl ⟨rfl, HB3.out⟩
set_option maxHeartbeats 2000000 in
theorem rrn_17 (a b c m : Int) (A : Option Addr) (n cp : Nat) (zs : List Int) (w : World) (h : Hid (Lst w A n zs)) : Calls Try.prog 16 #[iv 17 a b c m, .slice A n cp] w (RnPost 17 a b c m zs w) := by
  obtain ⟨W, hW, hb⟩ := RnB.start w 17 a b c m
  have HW := hide hW
  have cp1 := fun W (hB : Below w.heap.size w W) => rrenamed_any A n cp zs a W (hide (h.out.below hB))
  have cp2 := fun W (hB : Below w.heap.size w W) => rrenamed_any A n cp zs b W (hide (h.out.below hB))
  have CP1 := hide cp1
  have CP2 := hide cp2
  unfold RnPost
  rw [rnA_on (show defB 17 = true from rfl), rnB_on (show useB 17 = true from rfl)]
  clear hW cp1 cp2
  have H0 := hide hb
  have x0 := hb.i.cell (k := 0) rfl
  have x1 := hb.i.cell (k := 1) rfl
  have x2 := hb.i.cell (k := 2) rfl
  have f1 := hb.i.free 1
  have f2 := hb.i.free 2
  clear hb
  go_enter Try.func16, Try.ntmps16
  go_upto_region 1 with (fail)
  rw [HW.out]
  clear HW
  obtain ⟨V, hV⟩ : ∃ V, (W.setCell ⟨w.heap.size, 1, none⟩ (.int .i64 (plZ zs a))).setCell ⟨w.heap.size, 2, none⟩ (.int .i64 (plZ zs b)) = V := ⟨_, rfl⟩
  have HV := hide (show RnB w V 17 (plZ zs a) (plZ zs b) c m [.int .i64 0, .int .i64 0, .int .i64 0, .int .i64 0, .int .u64 0] by rw [← hV]; exact (H0.out.setA (plZ zs a)).setB (plZ zs b))
  have HE := hide hV
  obtain ⟨V3, hV3, hR3, hB3⟩ := HV.out.fin
  have HV3 := hide hV3
  have HR3 := hide hR3
  have HB3 := hide hB3
  clear hV hV3 hR3 hB3
  go_upto_region 7 with (fail)
  have x3 := H0.out.i.cell (k := 3) rfl
  have x4 := H0.out.i.cell (k := 4) rfl
  have y0 := H0.out.r.cell (k := 0) rfl
  have g0 := H0.out.r.free 0
  have y1 := H0.out.r.cell (k := 1) rfl
  have g1 := H0.out.r.free 1
  have y2 := H0.out.r.cell (k := 2) rfl
  have g2 := H0.out.r.free 2
  have y3 := H0.out.r.cell (k := 3) rfl
  have g3 := H0.out.r.free 3
  have y4 := H0.out.r.cell (k := 4) rfl
  have g4 := H0.out.r.free 4
  have CP := hide (fun W (hB : Below w.heap.size w W) s => rrenamed_any A n cp zs s W (hide (h.out.below hB)))
  clear CP1 CP2
  go_region_law
    (go_simp; go_at_call 21; refine (CP.out _ (by first | exact H0.out.b | exact H0.out.b.drew) _).mono ?_; rintro e w1 ⟨rfl, rfl⟩)
  all_goals
    try go_wp2_with fail
    rw [HE.out, HV3.out]
    have z0 := HR3.out.cell (k := 0) rfl
    have z1 := HR3.out.cell (k := 1) rfl
    have z2 := HR3.out.cell (k := 2) rfl
    have z3 := HR3.out.cell (k := 3) rfl
    have z4 := HR3.out.cell (k := 4) rfl
    exact bodyPost_ret (v := iv 17 (plZ zs a) (plZ zs b) c m) (by simp [results, Try.results16, go_sem, z0, z1, z2, z3, z4]) rfl ⟨rfl, HB3.out.drew⟩
theorem rrenamed15_any (o a b c m : Int) (A : Option Addr) (n cp : Nat) (zs : List Int) (w : World) (h : Hid (Lst w A n zs)) : Calls Try.prog 16 #[iv o a b c m, .slice A n cp] w (RnPost o a b c m zs w) := by
  rcases op_cases o with rfl | rfl | rfl | hno
  · exact rrn_15 a b c m A n cp zs w h
  · exact rrn_16 a b c m A n cp zs w h
  · exact rrn_17 a b c m A n cp zs w h
  · exact rrn_o o a b c m A n cp zs w h hno
end Go.Proofs.Ythaabgiefpfeaaa
end
