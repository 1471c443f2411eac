import Derived.Test.YtgcjckbndkddmaaDoorMQopd
import Derived.Test.YtgcjckbndkddmaaDoorMGe
import Derived.RegionTactic
set_option linter.unusedVariables false
set_option linter.unusedSimpArgs false
section
/-
  The contract of the reference's reader: instr. Conditions: from 1 to 2^20 bytes.
-/
namespace Go.Proofs.YtgcjckbndkddmaaDoor
open Go.RowKit

/-- What a call that reads an instruction leaves. -/
def InPost (g b off n c : Nat) (zs : List Int) (en : Nat) (S : Rd Unit) (w : World) (e : Ending) (w' : World) : Prop :=
  ∃ o x y z m : Int, e = .returned (iv o x y z m) ∧ RdSt w' g b off n c zs en (S.to insR).st ∧ w.grownBy w' (some g) ∧ ∀ s r, S.to insR = .ok s r → (⟨o, x, y, z, m⟩ : Ins) = s
abbrev zIns : List Value := [.int .i64 0, .int .i64 0, .int .i64 0, .int .i64 0, .int .u64 0]

set_option maxRecDepth 100000 in
set_option maxHeartbeats 1600000 in
theorem instr_no (g b off n c en : Nat) (zs : List Int) (x : Int) (w : World) (h : Hid (RdSt w g b off n c zs en (.no x))) :
    Calls Tryd.prog 89 #[.pointer (some ⟨g, 0, none⟩)] w (InPost g b off n c zs en (.no x) w) := by
  have hg := h.out.lt
  have hne : w.heap.size ≠ g := by omega
  obtain ⟨W, hW⟩ : ∃ W, w.alloc (.cells #[.int .i64 0, .int .i64 0, .int .i64 0, .int .i64 0, .int .u64 0] 49) = W := ⟨_, rfl⟩
  have HW := hide hW
  have K0 := hide (show Kp w g b off n c zs en (.no x) W by rw [← hW]; exact (Kp.start h.out).alloc _)
  have hrow := hide (show Row W w.heap.size 49 zIns by rw [← hW]; exact Row.new w _ _)
  clear hW
  obtain ⟨k, e, r, hke, rfl, he1, he2⟩ := K0.out.r
  have c3 := r.row.cell (k := 3) rfl
  have hb : (e == 0) = false := by rw [beq_eq_false_iff_ne]; omega
  clear r
  go_enter Tryd.func89, Tryd.ntmps89
  go_wp2_with fail
  rw [HW.out]
  go_quiet (fail)
  go_wp2_with fail
  go_quiet (fail)
  have x0 := hrow.out.cell (k := 0) rfl
  have x1 := hrow.out.cell (k := 1) rfl
  have x2 := hrow.out.cell (k := 2) rfl
  have x3 := hrow.out.cell (k := 3) rfl
  have x4 := hrow.out.cell (k := 4) rfl
  have y0 := hrow.out.free 0
  have y1 := hrow.out.free 1
  have y2 := hrow.out.free 2
  have y3 := hrow.out.free 3
  have y4 := hrow.out.free 4
  go_wp2
  have hf := fun q => (((((hrow.out.drewN q).set_ 0 (.int .i64 0)).set_ 1 (.int .i64 0)).set_ 2 (.int .i64 0)).set_ 3 (.int .i64 0)).set_ 4 (.int .u64 0)
  have KF := fun q => (((((K0.out.drewN q).set (Nat.le_refl w.heap.size) hg 0 (.int .i64 0)).set (Nat.le_refl w.heap.size) hg 1 (.int .i64 0)).set (Nat.le_refl w.heap.size) hg 2 (.int .i64 0)).set (Nat.le_refl w.heap.size) hg 3 (.int .i64 0)).set (Nat.le_refl w.heap.size) hg 4 (.int .u64 0)
  have f0 := fun q => (hf q).cell (k := 0) rfl
  have f1 := fun q => (hf q).cell (k := 1) rfl
  have f2 := fun q => (hf q).cell (k := 2) rfl
  have f3 := fun q => (hf q).cell (k := 3) rfl
  have f4 := fun q => (hf q).cell (k := 4) rfl
  refine bodyPost_ret (v := iv 0 0 0 0 0) (by simp [results, Tryd.results89, go_sem, f0, f1, f2, f3, f4]) rfl ⟨0, 0, 0, 0, 0, rfl, (KF _).r, (KF _).g, ?_⟩
  exact fun s r e => by cases e

-- BY PROGRAM (geninstr.py)
/-- A number read, its value and the state behind it under letters. -/
theorem num_at {g b off n c en : Nat} {zs : List Int} {S T : Rd Unit} {v : Nat} {w : World} (hz : Hid (Src n c zs)) (h : Hid (RdSt w g b off n c zs en S)) (hen : en ≤ n) (hT : Hid (T = stN true numR S)) (hv : Hid (v = vlN true numR S)) :
    Calls Tryd.prog 87 #[.pointer (some ⟨g, 0, none⟩)] w (RPost g b off n c zs en T (.int .i64 (v : Int)) w) := by
  rw [hT.out, hv.out]
  exact number_any g b off n c en zs S w hz h hen
theorem word_at {g b off n c en : Nat} {zs : List Int} {S T : Rd Unit} {v : Nat} {w : World} (hz : Hid (Src n c zs)) (h : Hid (RdSt w g b off n c zs en S)) (hen : en ≤ n) (hT : Hid (T = stN true wordR S)) (hv : Hid (v = vlN true wordR S)) :
    Calls Tryd.prog 101 #[.pointer (some ⟨g, 0, none⟩)] w (RPost g b off n c zs en T (.int .u64 (v : Int)) w) := by
  rw [hT.out, hv.out]
  exact word_any g b off n c en zs S w hz h hen

set_option maxRecDepth 100000 in
set_option maxHeartbeats 1600000 in
theorem instr_end (g b off n c en : Nat) (zs : List Int) (w : World) (hz : Hid (Src n c zs)) (h : Hid (RdSt w g b off n c zs en (.ok () []))) (hen : en ≤ n) :
    Calls Tryd.prog 89 #[.pointer (some ⟨g, 0, none⟩)] w (InPost g b off n c zs en (.ok () []) w) := by
  have hg := h.out.lt
  have hne : w.heap.size ≠ g := by omega
  obtain ⟨W, hW⟩ : ∃ W, w.alloc (.cells #[.int .i64 0, .int .i64 0, .int .i64 0, .int .i64 0, .int .u64 0] 49) = W := ⟨_, rfl⟩
  have HW := hide hW
  have K0 := hide (show Kp w g b off n c zs en (.ok () []) W by rw [← hW]; exact (Kp.start h.out).alloc _)
  have hrow := hide (show Row W w.heap.size 49 zIns by rw [← hW]; exact Row.new w _ _)
  have hWs : W.heap.size = w.heap.size + 1 := by rw [← hW]; simp
  clear hW
  obtain ⟨k, e, r, hke, rfl, hs⟩ := K0.out.r
  have hk : en ≤ k ∨ n ≤ k ∨ zs.length ≤ k := by
    have := congrArg List.length hs
    rw [List.length_drop, List.length_take, List.length_nil] at this
    omega
  have hkz : (en : Int) ≤ (k : Int) := by have := hz.out.len; omega
  clear hk hs
  have c1 := r.row.cell (k := 1) rfl
  have c2 := r.row.cell (k := 2) rfl
  have c3 := r.row.cell (k := 3) rfl
  clear r
  go_enter Tryd.func89, Tryd.ntmps89
  go_wp2_with fail
  rw [HW.out]
  go_quiet (fail)
  go_wp2_with fail
  refine (fail_ok (l := []) (x := 1) (hide (K0.out.drewN _).r) (by omega)).mono ?_
  rintro e w1 ⟨rfl, hR1, hG1⟩
  have K1 := hide ((K0.out.drewN _).to hR1 hG1)
  have r1 := hide ((hrow.out.drewN _).grown hG1 (fun e => by injection e with e; omega))
  clear hR1 hG1 c1 c2 c3 K0 hrow
  obtain ⟨k1, e, r, hke1, rfl, he⟩ := K1.out.r
  have c3 := r.row.cell (k := 3) rfl
  clear r
  go_wp2_with fail
  go_quiet (fail)
  have x0 := r1.out.cell (k := 0) rfl
  have y0 := r1.out.free 0
  have x1 := r1.out.cell (k := 1) rfl
  have y1 := r1.out.free 1
  have x2 := r1.out.cell (k := 2) rfl
  have y2 := r1.out.free 2
  have x3 := r1.out.cell (k := 3) rfl
  have y3 := r1.out.free 3
  have x4 := r1.out.cell (k := 4) rfl
  have y4 := r1.out.free 4
  go_wp2
  have hf := fun q => (((((r1.out.drewN q).set_ 0 (.int .i64 0)).set_ 1 (.int .i64 0)).set_ 2 (.int .i64 0)).set_ 3 (.int .i64 0)).set_ 4 (.int .u64 0)
  have KF := fun q => (((((K1.out.drewN q).set (Nat.le_refl w.heap.size) hg 0 (.int .i64 0)).set (Nat.le_refl w.heap.size) hg 1 (.int .i64 0)).set (Nat.le_refl w.heap.size) hg 2 (.int .i64 0)).set (Nat.le_refl w.heap.size) hg 3 (.int .i64 0)).set (Nat.le_refl w.heap.size) hg 4 (.int .u64 0)
  have f0 := fun q => (hf q).cell (k := 0) rfl
  have f1 := fun q => (hf q).cell (k := 1) rfl
  have f2 := fun q => (hf q).cell (k := 2) rfl
  have f3 := fun q => (hf q).cell (k := 3) rfl
  have f4 := fun q => (hf q).cell (k := 4) rfl
  refine bodyPost_ret (v := iv 0 0 0 0 0) (by simp [results, Tryd.results89, go_sem, f0, f1, f2, f3, f4]) rfl ⟨0, 0, 0, 0, 0, rfl, (KF _).r, (KF _).g, ?_⟩
  exact fun s r e => by cases e

set_option maxRecDepth 100000 in
set_option maxHeartbeats 1600000 in
theorem instr_far (g b off n c en : Nat) (zs : List Int) (t : List Int) (z : Int) (w : World) (hz : Hid (Src n c zs)) (h : Hid (RdSt w g b off n c zs en (.ok () (z :: t)))) (hen : en ≤ n) (h25 : 25 ≤ z) :
    Calls Tryd.prog 89 #[.pointer (some ⟨g, 0, none⟩)] w (InPost g b off n c zs en (.ok () (z :: t)) w) := by
  have hg := h.out.lt
  have hne : w.heap.size ≠ g := by omega
  obtain ⟨W, hW⟩ : ∃ W, w.alloc (.cells #[.int .i64 0, .int .i64 0, .int .i64 0, .int .i64 0, .int .u64 0] 49) = W := ⟨_, rfl⟩
  have HW := hide hW
  have K0 := hide (show Kp w g b off n c zs en (.ok () (z :: t)) W by rw [← hW]; exact (Kp.start h.out).alloc _)
  have hrow := hide (show Row W w.heap.size 49 zIns by rw [← hW]; exact Row.new w _ _)
  have hWs : W.heap.size = w.heap.size + 1 := by rw [← hW]; simp
  clear hW
  obtain ⟨k, e, r, hke, rfl, hs⟩ := K0.out.r
  obtain ⟨hk, cz, z0, z255, hs2⟩ := next_byte hz.out r hs hen
  have c0 := r.row.cell (k := 0) rfl
  have c1 := r.row.cell (k := 1) rfl
  have c2 := r.row.cell (k := 2) rfl
  have c3 := r.row.cell (k := 3) rfl
  have q1 := r.row.free 1
  have hkz : (k : Int) < (en : Int) := by omega
  have hkn : (k : Int) < (n : Int) := by omega
  have hmost := hz.out.most
  have E := hide (show ((Rd.ok () (z :: t) : Rd Unit).to insR) = .no 4 from insR_far h25)
  clear r hs hs2
  go_enter Tryd.func89, Tryd.ntmps89
  go_wp2_with fail
  rw [HW.out]
  go_quiet (fail)
  go_wp2_with fail
  go_quiet (fail)
  go_wp2_with fail
  refine (fail_ok (l := z :: t) (x := 4) (hide (K0.out.drewN _).r) (by omega)).mono ?_
  rintro e w1 ⟨rfl, hR1, hG1⟩
  have K1 := hide ((K0.out.drewN _).to hR1 hG1)
  have r1 := hide ((hrow.out.drewN _).grown hG1 (fun e => by injection e with e; omega))
  clear hR1 hG1 c1 c2 c3 K0 hrow
  obtain ⟨k1, e, r, hke1, rfl, he⟩ := K1.out.r
  have c3 := r.row.cell (k := 3) rfl
  clear r
  have x0 := r1.out.cell (k := 0) rfl
  have y0 := r1.out.free 0
  have x1 := r1.out.cell (k := 1) rfl
  have y1 := r1.out.free 1
  have x2 := r1.out.cell (k := 2) rfl
  have y2 := r1.out.free 2
  have x3 := r1.out.cell (k := 3) rfl
  have y3 := r1.out.free 3
  have x4 := r1.out.cell (k := 4) rfl
  have y4 := r1.out.free 4
  go_wp2
  have hf := (((((r1.out).set_ 0 (.int .i64 0)).set_ 1 (.int .i64 0)).set_ 2 (.int .i64 0)).set_ 3 (.int .i64 0)).set_ 4 (.int .u64 0)
  have KF := (((((K1.out).set (Nat.le_refl w.heap.size) hg 0 (.int .i64 0)).set (Nat.le_refl w.heap.size) hg 1 (.int .i64 0)).set (Nat.le_refl w.heap.size) hg 2 (.int .i64 0)).set (Nat.le_refl w.heap.size) hg 3 (.int .i64 0)).set (Nat.le_refl w.heap.size) hg 4 (.int .u64 0)
  have f0 := hf.cell (k := 0) rfl
  have f1 := hf.cell (k := 1) rfl
  have f2 := hf.cell (k := 2) rfl
  have f3 := hf.cell (k := 3) rfl
  have f4 := hf.cell (k := 4) rfl
  refine bodyPost_ret (v := iv 0 0 0 0 0) (by simp [results, Tryd.results89, go_sem, f0, f1, f2, f3, f4]) rfl ⟨0, 0, 0, 0, 0, rfl, (by rw [E.out]; exact KF.r), KF.g, ?_⟩
  rw [E.out]
  exact fun s r e => by cases e

set_option maxRecDepth 100000 in
set_option maxHeartbeats 1600000 in
theorem instr_aaa (g b off n c en : Nat) (zs : List Int) (t : List Int) (z : Int) (w : World) (hz : Hid (Src n c zs)) (h : Hid (RdSt w g b off n c zs en (.ok () (z :: t)))) (hen : en ≤ n) (h25 : z < 25) (ha : Hid (useA z = true)) (hb : Hid (useB z = true)) (hc : Hid (useC z = true)) (hi : Hid (useI z = false)) :
    Calls Tryd.prog 89 #[.pointer (some ⟨g, 0, none⟩)] w (InPost g b off n c zs en (.ok () (z :: t)) w) := by
  have hg := h.out.lt
  have hne : w.heap.size ≠ g := by omega
  obtain ⟨W, hW⟩ : ∃ W, w.alloc (.cells #[.int .i64 0, .int .i64 0, .int .i64 0, .int .i64 0, .int .u64 0] 49) = W := ⟨_, rfl⟩
  have HW := hide hW
  have K0 := hide (show Kp w g b off n c zs en (.ok () (z :: t)) W by rw [← hW]; exact (Kp.start h.out).alloc _)
  have hrow := hide (show Row W w.heap.size 49 zIns by rw [← hW]; exact Row.new w _ _)
  have hWs : W.heap.size = w.heap.size + 1 := by rw [← hW]; simp
  clear hW
  obtain ⟨k, e, r, hke, rfl, hs⟩ := K0.out.r
  obtain ⟨hk, cz, z0, z255, hs2⟩ := next_byte hz.out r hs hen
  have c0 := r.row.cell (k := 0) rfl
  have c1 := r.row.cell (k := 1) rfl
  have c2 := r.row.cell (k := 2) rfl
  have c3 := r.row.cell (k := 3) rfl
  have q1 := r.row.free 1
  have hkz : (k : Int) < (en : Int) := by omega
  have hkn : (k : Int) < (n : Int) := by omega
  have hmost := hz.out.most
  have hbl := World.block_lt_of_cell? _ _ cz
  have gl : g < W.heap.size := by omega
  have cz' : ∀ (q : Nat) (o : Obj), ((W.drewN q).alloc o).cell? ⟨b, off + k, none⟩ = some (.int .u8 z) := fun q o => (World.cell?_alloc_lt (W.drewN q) o _ hbl).trans cz
  have c0' : ∀ (q : Nat) (o : Obj), ((W.drewN q).alloc o).cell? ⟨g, 0, none⟩ = some (.slice (some ⟨b, off, none⟩) n c) := fun q o => (World.cell?_alloc_lt (W.drewN q) o _ gl).trans c0
  have c1' : ∀ (q : Nat) (o : Obj), ((W.drewN q).alloc o).cell? ⟨g, 1, none⟩ = some (.int .i64 (k : Int)) := fun q o => (World.cell?_alloc_lt (W.drewN q) o _ gl).trans c1
  have q1' : ∀ (q : Nat) (o : Obj), ((W.drewN q).alloc o).frozen? ⟨g, 1, none⟩ = false := fun q o => ((r.row.drewN q).alloc o).free 1
  have hop : ∀ (q : Nat) (l : List Value), ((W.drewN q).alloc (.cells (.int .i64 z :: l).toArray 49)).cell? ⟨w.heap.size + 1, 0, none⟩ = some (.int .i64 z) := fun q l => ((Row.new (W.drewN q) 49 (.int .i64 z :: l)).at_ (by show W.heap.size = _; exact hWs)).cell (k := 0) rfl
  have KA := hide (fun q : Nat => (show Kp w g b off n c zs en (.ok () t) (((W.drewN q).setCell ⟨g, 1, none⟩ (.int .i64 ((k : Int) + 1))).alloc (.cells #[.int .i64 z, .int .i64 0, .int .i64 0, .int .i64 0, .int .u64 0] 49)) from by
    have h1 := K0.out.drewN q
    have r2 := RdAt.set_at (w := W.drewN q) (e := 0) (k := k) ⟨r.row.drewN q, r.see.draws q⟩ (k + 1)
    rw [show (((k + 1 : Nat)) : Int) = (k : Int) + 1 by omega] at r2
    have h2 : Kp w g b off n c zs en (.ok () t) ((W.drewN q).setCell ⟨g, 1, none⟩ (.int .i64 ((k : Int) + 1))) := ⟨⟨k + 1, 0, r2, by omega, rfl, hs2⟩, grown_set h1.g 1 _⟩
    exact h2.alloc _))
  have RA := hide (fun q : Nat => (show Row (((W.drewN q).setCell ⟨g, 1, none⟩ (.int .i64 ((k : Int) + 1))).alloc (.cells #[.int .i64 z, .int .i64 0, .int .i64 0, .int .i64 0, .int .u64 0] 49)) (w.heap.size + 1) 49 [.int .i64 z, .int .i64 0, .int .i64 0, .int .i64 0, .int .u64 0] from
    (Row.new ((W.drewN q).setCell ⟨g, 1, none⟩ (.int .i64 ((k : Int) + 1))) 49 [.int .i64 z, .int .i64 0, .int .i64 0, .int .i64 0, .int .u64 0]).at_ (by simp [World.setCell]; exact hWs)))
  have RB := hide (fun q : Nat => (show Row (((W.drewN q).setCell ⟨g, 1, none⟩ (.int .i64 ((k : Int) + 1))).alloc (.cells #[.int .i64 z, .int .i64 0, .int .i64 0, .int .i64 0, .int .u64 0] 49)) w.heap.size 49 zIns from
    ((hrow.out.drewN q).far (by simpa using hne) _).alloc _))
  have E := hide (show ((Rd.ok () (z :: t) : Rd Unit).to insR) = opsR (useA z) (useB z) (useC z) (useI z) z t from insR_near h25)
  rw [ha.out, hb.out, hc.out, hi.out] at E
  obtain ⟨v1, hv1⟩ : ∃ v, Hid (v = vlN true numR (.ok () t)) := ⟨_, hide rfl⟩
  obtain ⟨S1, hS1⟩ : ∃ T, Hid (T = stN true numR (.ok () t)) := ⟨_, hide rfl⟩
  obtain ⟨v2, hv2⟩ : ∃ v, Hid (v = vlN true numR S1) := ⟨_, hide rfl⟩
  obtain ⟨S2, hS2⟩ : ∃ T, Hid (T = stN true numR S1) := ⟨_, hide rfl⟩
  obtain ⟨v3, hv3⟩ : ∃ v, Hid (v = vlN true numR S2) := ⟨_, hide rfl⟩
  obtain ⟨S3, hS3⟩ : ∃ T, Hid (T = stN true numR S2) := ⟨_, hide rfl⟩
  have ES := hide (show ((Rd.ok () (z :: t) : Rd Unit).to insR).st = S3 by
    rw [E.out, ops_st, hS3.out, hS2.out, hS1.out]
    rfl)
  have EV := hide (show ∀ (s : Ins) (r : List Int), (Rd.ok () (z :: t) : Rd Unit).to insR = .ok s r → (⟨z, (v1 : Int), (v2 : Int), (v3 : Int), 0⟩ : Ins) = s by
    intro s r e
    rw [E.out] at e
    rw [ops_val e, hv3.out, hv2.out, hv1.out, hS2.out, hS1.out]
    rfl)
  clear r hs hs2 K0 hrow E
  go_enter Tryd.func89, Tryd.ntmps89
  go_wp2_with fail
  rw [HW.out]
  go_quiet (fail)
  go_wp2_with fail
  go_quiet (fail)
  go_wp2_with fail
  go_region
  go_wp2_with fail
  refine (ropd_any z _ z0 h25).mono ?_
  rintro e w9 ⟨rfl, hw9⟩
  have K9 := hide (show Kp w g b off n c zs en (.ok () t) w9 by rw [← hw9]; exact KA.out _)
  have RA9 := hide (show Row w9 (w.heap.size + 1) 49 [.int .i64 z, .int .i64 0, .int .i64 0, .int .i64 0, .int .u64 0] by rw [← hw9]; exact RA.out _)
  have RB9 := hide (show Row w9 w.heap.size 49 zIns by rw [← hw9]; exact RB.out _)
  clear hw9 KA RA RB
  rw [ha.out, hb.out, hc.out, hi.out]
  clear c0 c1 c2 c3 q1 cz cz' c0' c1' q1' hop
  go_wp2_with fail
  refine (num_at hz (hide K9.out.r) hen hS1 hv1).mono ?_
  rintro e w1 ⟨rfl, hR, hG⟩
  have k1 := hide (K9.out.to hR hG)
  have ra1 := hide (RA9.out.grown hG (fun e => by injection e with e; omega))
  have rb1 := hide (RB9.out.grown hG (fun e => by injection e with e; omega))
  clear hR hG K9 RA9 RB9
  have p1 := ra1.out.cell (k := 1) rfl
  have q1 := ra1.out.free 1
  have K1 := hide (k1.out.set (gb := w.heap.size + 1) (by omega) hg 1 (.int .i64 (v1 : Int)))
  have RA1 := hide (ra1.out.set_ 1 (.int .i64 (v1 : Int)))
  have RB1 := hide (rb1.out.far (p := ⟨w.heap.size + 1, 1, none⟩) (by simp) (.int .i64 (v1 : Int)))
  clear k1 ra1 rb1
  go_wp2_with fail
  refine (num_at hz (hide K1.out.r) hen hS2 hv2).mono ?_
  rintro e w2 ⟨rfl, hR, hG⟩
  have k2 := hide (K1.out.to hR hG)
  have ra2 := hide (RA1.out.grown hG (fun e => by injection e with e; omega))
  have rb2 := hide (RB1.out.grown hG (fun e => by injection e with e; omega))
  clear hR hG K1 RA1 RB1
  have p2 := ra2.out.cell (k := 2) rfl
  have q2 := ra2.out.free 2
  have K2 := hide (k2.out.set (gb := w.heap.size + 1) (by omega) hg 2 (.int .i64 (v2 : Int)))
  have RA2 := hide (ra2.out.set_ 2 (.int .i64 (v2 : Int)))
  have RB2 := hide (rb2.out.far (p := ⟨w.heap.size + 1, 2, none⟩) (by simp) (.int .i64 (v2 : Int)))
  clear k2 ra2 rb2
  go_wp2_with fail
  refine (num_at hz (hide K2.out.r) hen hS3 hv3).mono ?_
  rintro e w3 ⟨rfl, hR, hG⟩
  have k3 := hide (K2.out.to hR hG)
  have ra3 := hide (RA2.out.grown hG (fun e => by injection e with e; omega))
  have rb3 := hide (RB2.out.grown hG (fun e => by injection e with e; omega))
  clear hR hG K2 RA2 RB2
  have p3 := ra3.out.cell (k := 3) rfl
  have q3 := ra3.out.free 3
  have K3 := hide (k3.out.set (gb := w.heap.size + 1) (by omega) hg 3 (.int .i64 (v3 : Int)))
  have RA3 := hide (ra3.out.set_ 3 (.int .i64 (v3 : Int)))
  have RB3 := hide (rb3.out.far (p := ⟨w.heap.size + 1, 3, none⟩) (by simp) (.int .i64 (v3 : Int)))
  clear k3 ra3 rb3
  have xa0 := RA3.out.cell (k := 0) rfl
  have xa1 := RA3.out.cell (k := 1) rfl
  have xa2 := RA3.out.cell (k := 2) rfl
  have xa3 := RA3.out.cell (k := 3) rfl
  have xa4 := RA3.out.cell (k := 4) rfl
  have x0 := RB3.out.cell (k := 0) rfl
  have y0 := RB3.out.free 0
  have x1 := RB3.out.cell (k := 1) rfl
  have y1 := RB3.out.free 1
  have x2 := RB3.out.cell (k := 2) rfl
  have y2 := RB3.out.free 2
  have x3 := RB3.out.cell (k := 3) rfl
  have y3 := RB3.out.free 3
  have x4 := RB3.out.cell (k := 4) rfl
  have y4 := RB3.out.free 4
  go_wp2
  have hf := (((((RB3.out).set_ 0 (.int .i64 z)).set_ 1 (.int .i64 (v1 : Int))).set_ 2 (.int .i64 (v2 : Int))).set_ 3 (.int .i64 (v3 : Int))).set_ 4 (.int .u64 0)
  have KF := (((((K3.out).set (Nat.le_refl w.heap.size) hg 0 (.int .i64 z)).set (Nat.le_refl w.heap.size) hg 1 (.int .i64 (v1 : Int))).set (Nat.le_refl w.heap.size) hg 2 (.int .i64 (v2 : Int))).set (Nat.le_refl w.heap.size) hg 3 (.int .i64 (v3 : Int))).set (Nat.le_refl w.heap.size) hg 4 (.int .u64 0)
  have f0 := hf.cell (k := 0) rfl
  have f1 := hf.cell (k := 1) rfl
  have f2 := hf.cell (k := 2) rfl
  have f3 := hf.cell (k := 3) rfl
  have f4 := hf.cell (k := 4) rfl
  refine bodyPost_ret (v := iv z (v1 : Int) (v2 : Int) (v3 : Int) 0) (by simp [results, Tryd.results89, go_sem, f0, f1, f2, f3, f4]) rfl ⟨z, (v1 : Int), (v2 : Int), (v3 : Int), 0, rfl, (by rw [ES.out]; exact KF.r), KF.g, ?_⟩
  exact EV.out

set_option maxRecDepth 100000 in
set_option maxHeartbeats 1600000 in
theorem instr_aa (g b off n c en : Nat) (zs : List Int) (t : List Int) (z : Int) (w : World) (hz : Hid (Src n c zs)) (h : Hid (RdSt w g b off n c zs en (.ok () (z :: t)))) (hen : en ≤ n) (h25 : z < 25) (ha : Hid (useA z = true)) (hb : Hid (useB z = true)) (hc : Hid (useC z = false)) (hi : Hid (useI z = false)) :
    Calls Tryd.prog 89 #[.pointer (some ⟨g, 0, none⟩)] w (InPost g b off n c zs en (.ok () (z :: t)) w) := by
  have hg := h.out.lt
  have hne : w.heap.size ≠ g := by omega
  obtain ⟨W, hW⟩ : ∃ W, w.alloc (.cells #[.int .i64 0, .int .i64 0, .int .i64 0, .int .i64 0, .int .u64 0] 49) = W := ⟨_, rfl⟩
  have HW := hide hW
  have K0 := hide (show Kp w g b off n c zs en (.ok () (z :: t)) W by rw [← hW]; exact (Kp.start h.out).alloc _)
  have hrow := hide (show Row W w.heap.size 49 zIns by rw [← hW]; exact Row.new w _ _)
  have hWs : W.heap.size = w.heap.size + 1 := by rw [← hW]; simp
  clear hW
  obtain ⟨k, e, r, hke, rfl, hs⟩ := K0.out.r
  obtain ⟨hk, cz, z0, z255, hs2⟩ := next_byte hz.out r hs hen
  have c0 := r.row.cell (k := 0) rfl
  have c1 := r.row.cell (k := 1) rfl
  have c2 := r.row.cell (k := 2) rfl
  have c3 := r.row.cell (k := 3) rfl
  have q1 := r.row.free 1
  have hkz : (k : Int) < (en : Int) := by omega
  have hkn : (k : Int) < (n : Int) := by omega
  have hmost := hz.out.most
  have hbl := World.block_lt_of_cell? _ _ cz
  have gl : g < W.heap.size := by omega
  have cz' : ∀ (q : Nat) (o : Obj), ((W.drewN q).alloc o).cell? ⟨b, off + k, none⟩ = some (.int .u8 z) := fun q o => (World.cell?_alloc_lt (W.drewN q) o _ hbl).trans cz
  have c0' : ∀ (q : Nat) (o : Obj), ((W.drewN q).alloc o).cell? ⟨g, 0, none⟩ = some (.slice (some ⟨b, off, none⟩) n c) := fun q o => (World.cell?_alloc_lt (W.drewN q) o _ gl).trans c0
  have c1' : ∀ (q : Nat) (o : Obj), ((W.drewN q).alloc o).cell? ⟨g, 1, none⟩ = some (.int .i64 (k : Int)) := fun q o => (World.cell?_alloc_lt (W.drewN q) o _ gl).trans c1
  have q1' : ∀ (q : Nat) (o : Obj), ((W.drewN q).alloc o).frozen? ⟨g, 1, none⟩ = false := fun q o => ((r.row.drewN q).alloc o).free 1
  have hop : ∀ (q : Nat) (l : List Value), ((W.drewN q).alloc (.cells (.int .i64 z :: l).toArray 49)).cell? ⟨w.heap.size + 1, 0, none⟩ = some (.int .i64 z) := fun q l => ((Row.new (W.drewN q) 49 (.int .i64 z :: l)).at_ (by show W.heap.size = _; exact hWs)).cell (k := 0) rfl
  have KA := hide (fun q : Nat => (show Kp w g b off n c zs en (.ok () t) (((W.drewN q).setCell ⟨g, 1, none⟩ (.int .i64 ((k : Int) + 1))).alloc (.cells #[.int .i64 z, .int .i64 0, .int .i64 0, .int .i64 0, .int .u64 0] 49)) from by
    have h1 := K0.out.drewN q
    have r2 := RdAt.set_at (w := W.drewN q) (e := 0) (k := k) ⟨r.row.drewN q, r.see.draws q⟩ (k + 1)
    rw [show (((k + 1 : Nat)) : Int) = (k : Int) + 1 by omega] at r2
    have h2 : Kp w g b off n c zs en (.ok () t) ((W.drewN q).setCell ⟨g, 1, none⟩ (.int .i64 ((k : Int) + 1))) := ⟨⟨k + 1, 0, r2, by omega, rfl, hs2⟩, grown_set h1.g 1 _⟩
    exact h2.alloc _))
  have RA := hide (fun q : Nat => (show Row (((W.drewN q).setCell ⟨g, 1, none⟩ (.int .i64 ((k : Int) + 1))).alloc (.cells #[.int .i64 z, .int .i64 0, .int .i64 0, .int .i64 0, .int .u64 0] 49)) (w.heap.size + 1) 49 [.int .i64 z, .int .i64 0, .int .i64 0, .int .i64 0, .int .u64 0] from
    (Row.new ((W.drewN q).setCell ⟨g, 1, none⟩ (.int .i64 ((k : Int) + 1))) 49 [.int .i64 z, .int .i64 0, .int .i64 0, .int .i64 0, .int .u64 0]).at_ (by simp [World.setCell]; exact hWs)))
  have RB := hide (fun q : Nat => (show Row (((W.drewN q).setCell ⟨g, 1, none⟩ (.int .i64 ((k : Int) + 1))).alloc (.cells #[.int .i64 z, .int .i64 0, .int .i64 0, .int .i64 0, .int .u64 0] 49)) w.heap.size 49 zIns from
    ((hrow.out.drewN q).far (by simpa using hne) _).alloc _))
  have E := hide (show ((Rd.ok () (z :: t) : Rd Unit).to insR) = opsR (useA z) (useB z) (useC z) (useI z) z t from insR_near h25)
  rw [ha.out, hb.out, hc.out, hi.out] at E
  obtain ⟨v1, hv1⟩ : ∃ v, Hid (v = vlN true numR (.ok () t)) := ⟨_, hide rfl⟩
  obtain ⟨S1, hS1⟩ : ∃ T, Hid (T = stN true numR (.ok () t)) := ⟨_, hide rfl⟩
  obtain ⟨v2, hv2⟩ : ∃ v, Hid (v = vlN true numR S1) := ⟨_, hide rfl⟩
  obtain ⟨S2, hS2⟩ : ∃ T, Hid (T = stN true numR S1) := ⟨_, hide rfl⟩
  have ES := hide (show ((Rd.ok () (z :: t) : Rd Unit).to insR).st = S2 by
    rw [E.out, ops_st, hS2.out, hS1.out]
    rfl)
  have EV := hide (show ∀ (s : Ins) (r : List Int), (Rd.ok () (z :: t) : Rd Unit).to insR = .ok s r → (⟨z, (v1 : Int), (v2 : Int), 0, 0⟩ : Ins) = s by
    intro s r e
    rw [E.out] at e
    rw [ops_val e, hv2.out, hv1.out, hS1.out]
    rfl)
  clear r hs hs2 K0 hrow E
  go_enter Tryd.func89, Tryd.ntmps89
  go_wp2_with fail
  rw [HW.out]
  go_quiet (fail)
  go_wp2_with fail
  go_quiet (fail)
  go_wp2_with fail
  go_region
  go_wp2_with fail
  refine (ropd_any z _ z0 h25).mono ?_
  rintro e w9 ⟨rfl, hw9⟩
  have K9 := hide (show Kp w g b off n c zs en (.ok () t) w9 by rw [← hw9]; exact KA.out _)
  have RA9 := hide (show Row w9 (w.heap.size + 1) 49 [.int .i64 z, .int .i64 0, .int .i64 0, .int .i64 0, .int .u64 0] by rw [← hw9]; exact RA.out _)
  have RB9 := hide (show Row w9 w.heap.size 49 zIns by rw [← hw9]; exact RB.out _)
  clear hw9 KA RA RB
  rw [ha.out, hb.out, hc.out, hi.out]
  clear c0 c1 c2 c3 q1 cz cz' c0' c1' q1' hop
  go_wp2_with fail
  refine (num_at hz (hide K9.out.r) hen hS1 hv1).mono ?_
  rintro e w1 ⟨rfl, hR, hG⟩
  have k1 := hide (K9.out.to hR hG)
  have ra1 := hide (RA9.out.grown hG (fun e => by injection e with e; omega))
  have rb1 := hide (RB9.out.grown hG (fun e => by injection e with e; omega))
  clear hR hG K9 RA9 RB9
  have p1 := ra1.out.cell (k := 1) rfl
  have q1 := ra1.out.free 1
  have K1 := hide (k1.out.set (gb := w.heap.size + 1) (by omega) hg 1 (.int .i64 (v1 : Int)))
  have RA1 := hide (ra1.out.set_ 1 (.int .i64 (v1 : Int)))
  have RB1 := hide (rb1.out.far (p := ⟨w.heap.size + 1, 1, none⟩) (by simp) (.int .i64 (v1 : Int)))
  clear k1 ra1 rb1
  go_wp2_with fail
  refine (num_at hz (hide K1.out.r) hen hS2 hv2).mono ?_
  rintro e w2 ⟨rfl, hR, hG⟩
  have k2 := hide (K1.out.to hR hG)
  have ra2 := hide (RA1.out.grown hG (fun e => by injection e with e; omega))
  have rb2 := hide (RB1.out.grown hG (fun e => by injection e with e; omega))
  clear hR hG K1 RA1 RB1
  have p2 := ra2.out.cell (k := 2) rfl
  have q2 := ra2.out.free 2
  have K2 := hide (k2.out.set (gb := w.heap.size + 1) (by omega) hg 2 (.int .i64 (v2 : Int)))
  have RA2 := hide (ra2.out.set_ 2 (.int .i64 (v2 : Int)))
  have RB2 := hide (rb2.out.far (p := ⟨w.heap.size + 1, 2, none⟩) (by simp) (.int .i64 (v2 : Int)))
  clear k2 ra2 rb2
  have xa0 := RA2.out.cell (k := 0) rfl
  have xa1 := RA2.out.cell (k := 1) rfl
  have xa2 := RA2.out.cell (k := 2) rfl
  have xa3 := RA2.out.cell (k := 3) rfl
  have xa4 := RA2.out.cell (k := 4) rfl
  have x0 := RB2.out.cell (k := 0) rfl
  have y0 := RB2.out.free 0
  have x1 := RB2.out.cell (k := 1) rfl
  have y1 := RB2.out.free 1
  have x2 := RB2.out.cell (k := 2) rfl
  have y2 := RB2.out.free 2
  have x3 := RB2.out.cell (k := 3) rfl
  have y3 := RB2.out.free 3
  have x4 := RB2.out.cell (k := 4) rfl
  have y4 := RB2.out.free 4
  go_wp2
  have hf := (((((RB2.out).set_ 0 (.int .i64 z)).set_ 1 (.int .i64 (v1 : Int))).set_ 2 (.int .i64 (v2 : Int))).set_ 3 (.int .i64 0)).set_ 4 (.int .u64 0)
  have KF := (((((K2.out).set (Nat.le_refl w.heap.size) hg 0 (.int .i64 z)).set (Nat.le_refl w.heap.size) hg 1 (.int .i64 (v1 : Int))).set (Nat.le_refl w.heap.size) hg 2 (.int .i64 (v2 : Int))).set (Nat.le_refl w.heap.size) hg 3 (.int .i64 0)).set (Nat.le_refl w.heap.size) hg 4 (.int .u64 0)
  have f0 := hf.cell (k := 0) rfl
  have f1 := hf.cell (k := 1) rfl
  have f2 := hf.cell (k := 2) rfl
  have f3 := hf.cell (k := 3) rfl
  have f4 := hf.cell (k := 4) rfl
  refine bodyPost_ret (v := iv z (v1 : Int) (v2 : Int) 0 0) (by simp [results, Tryd.results89, go_sem, f0, f1, f2, f3, f4]) rfl ⟨z, (v1 : Int), (v2 : Int), 0, 0, rfl, (by rw [ES.out]; exact KF.r), KF.g, ?_⟩
  exact EV.out

set_option maxRecDepth 100000 in
set_option maxHeartbeats 1600000 in
theorem instr_a (g b off n c en : Nat) (zs : List Int) (t : List Int) (z : Int) (w : World) (hz : Hid (Src n c zs)) (h : Hid (RdSt w g b off n c zs en (.ok () (z :: t)))) (hen : en ≤ n) (h25 : z < 25) (ha : Hid (useA z = true)) (hb : Hid (useB z = false)) (hc : Hid (useC z = false)) (hi : Hid (useI z = false)) :
    Calls Tryd.prog 89 #[.pointer (some ⟨g, 0, none⟩)] w (InPost g b off n c zs en (.ok () (z :: t)) w) := by
  have hg := h.out.lt
  have hne : w.heap.size ≠ g := by omega
  obtain ⟨W, hW⟩ : ∃ W, w.alloc (.cells #[.int .i64 0, .int .i64 0, .int .i64 0, .int .i64 0, .int .u64 0] 49) = W := ⟨_, rfl⟩
  have HW := hide hW
  have K0 := hide (show Kp w g b off n c zs en (.ok () (z :: t)) W by rw [← hW]; exact (Kp.start h.out).alloc _)
  have hrow := hide (show Row W w.heap.size 49 zIns by rw [← hW]; exact Row.new w _ _)
  have hWs : W.heap.size = w.heap.size + 1 := by rw [← hW]; simp
  clear hW
  obtain ⟨k, e, r, hke, rfl, hs⟩ := K0.out.r
  obtain ⟨hk, cz, z0, z255, hs2⟩ := next_byte hz.out r hs hen
  have c0 := r.row.cell (k := 0) rfl
  have c1 := r.row.cell (k := 1) rfl
  have c2 := r.row.cell (k := 2) rfl
  have c3 := r.row.cell (k := 3) rfl
  have q1 := r.row.free 1
  have hkz : (k : Int) < (en : Int) := by omega
  have hkn : (k : Int) < (n : Int) := by omega
  have hmost := hz.out.most
  have hbl := World.block_lt_of_cell? _ _ cz
  have gl : g < W.heap.size := by omega
  have cz' : ∀ (q : Nat) (o : Obj), ((W.drewN q).alloc o).cell? ⟨b, off + k, none⟩ = some (.int .u8 z) := fun q o => (World.cell?_alloc_lt (W.drewN q) o _ hbl).trans cz
  have c0' : ∀ (q : Nat) (o : Obj), ((W.drewN q).alloc o).cell? ⟨g, 0, none⟩ = some (.slice (some ⟨b, off, none⟩) n c) := fun q o => (World.cell?_alloc_lt (W.drewN q) o _ gl).trans c0
  have c1' : ∀ (q : Nat) (o : Obj), ((W.drewN q).alloc o).cell? ⟨g, 1, none⟩ = some (.int .i64 (k : Int)) := fun q o => (World.cell?_alloc_lt (W.drewN q) o _ gl).trans c1
  have q1' : ∀ (q : Nat) (o : Obj), ((W.drewN q).alloc o).frozen? ⟨g, 1, none⟩ = false := fun q o => ((r.row.drewN q).alloc o).free 1
  have hop : ∀ (q : Nat) (l : List Value), ((W.drewN q).alloc (.cells (.int .i64 z :: l).toArray 49)).cell? ⟨w.heap.size + 1, 0, none⟩ = some (.int .i64 z) := fun q l => ((Row.new (W.drewN q) 49 (.int .i64 z :: l)).at_ (by show W.heap.size = _; exact hWs)).cell (k := 0) rfl
  have KA := hide (fun q : Nat => (show Kp w g b off n c zs en (.ok () t) (((W.drewN q).setCell ⟨g, 1, none⟩ (.int .i64 ((k : Int) + 1))).alloc (.cells #[.int .i64 z, .int .i64 0, .int .i64 0, .int .i64 0, .int .u64 0] 49)) from by
    have h1 := K0.out.drewN q
    have r2 := RdAt.set_at (w := W.drewN q) (e := 0) (k := k) ⟨r.row.drewN q, r.see.draws q⟩ (k + 1)
    rw [show (((k + 1 : Nat)) : Int) = (k : Int) + 1 by omega] at r2
    have h2 : Kp w g b off n c zs en (.ok () t) ((W.drewN q).setCell ⟨g, 1, none⟩ (.int .i64 ((k : Int) + 1))) := ⟨⟨k + 1, 0, r2, by omega, rfl, hs2⟩, grown_set h1.g 1 _⟩
    exact h2.alloc _))
  have RA := hide (fun q : Nat => (show Row (((W.drewN q).setCell ⟨g, 1, none⟩ (.int .i64 ((k : Int) + 1))).alloc (.cells #[.int .i64 z, .int .i64 0, .int .i64 0, .int .i64 0, .int .u64 0] 49)) (w.heap.size + 1) 49 [.int .i64 z, .int .i64 0, .int .i64 0, .int .i64 0, .int .u64 0] from
    (Row.new ((W.drewN q).setCell ⟨g, 1, none⟩ (.int .i64 ((k : Int) + 1))) 49 [.int .i64 z, .int .i64 0, .int .i64 0, .int .i64 0, .int .u64 0]).at_ (by simp [World.setCell]; exact hWs)))
  have RB := hide (fun q : Nat => (show Row (((W.drewN q).setCell ⟨g, 1, none⟩ (.int .i64 ((k : Int) + 1))).alloc (.cells #[.int .i64 z, .int .i64 0, .int .i64 0, .int .i64 0, .int .u64 0] 49)) w.heap.size 49 zIns from
    ((hrow.out.drewN q).far (by simpa using hne) _).alloc _))
  have E := hide (show ((Rd.ok () (z :: t) : Rd Unit).to insR) = opsR (useA z) (useB z) (useC z) (useI z) z t from insR_near h25)
  rw [ha.out, hb.out, hc.out, hi.out] at E
  obtain ⟨v1, hv1⟩ : ∃ v, Hid (v = vlN true numR (.ok () t)) := ⟨_, hide rfl⟩
  obtain ⟨S1, hS1⟩ : ∃ T, Hid (T = stN true numR (.ok () t)) := ⟨_, hide rfl⟩
  have ES := hide (show ((Rd.ok () (z :: t) : Rd Unit).to insR).st = S1 by
    rw [E.out, ops_st, hS1.out]
    rfl)
  have EV := hide (show ∀ (s : Ins) (r : List Int), (Rd.ok () (z :: t) : Rd Unit).to insR = .ok s r → (⟨z, (v1 : Int), 0, 0, 0⟩ : Ins) = s by
    intro s r e
    rw [E.out] at e
    rw [ops_val e, hv1.out]
    rfl)
  clear r hs hs2 K0 hrow E
  go_enter Tryd.func89, Tryd.ntmps89
  go_wp2_with fail
  rw [HW.out]
  go_quiet (fail)
  go_wp2_with fail
  go_quiet (fail)
  go_wp2_with fail
  go_region
  go_wp2_with fail
  refine (ropd_any z _ z0 h25).mono ?_
  rintro e w9 ⟨rfl, hw9⟩
  have K9 := hide (show Kp w g b off n c zs en (.ok () t) w9 by rw [← hw9]; exact KA.out _)
  have RA9 := hide (show Row w9 (w.heap.size + 1) 49 [.int .i64 z, .int .i64 0, .int .i64 0, .int .i64 0, .int .u64 0] by rw [← hw9]; exact RA.out _)
  have RB9 := hide (show Row w9 w.heap.size 49 zIns by rw [← hw9]; exact RB.out _)
  clear hw9 KA RA RB
  rw [ha.out, hb.out, hc.out, hi.out]
  clear c0 c1 c2 c3 q1 cz cz' c0' c1' q1' hop
  go_wp2_with fail
  refine (num_at hz (hide K9.out.r) hen hS1 hv1).mono ?_
  rintro e w1 ⟨rfl, hR, hG⟩
  have k1 := hide (K9.out.to hR hG)
  have ra1 := hide (RA9.out.grown hG (fun e => by injection e with e; omega))
  have rb1 := hide (RB9.out.grown hG (fun e => by injection e with e; omega))
  clear hR hG K9 RA9 RB9
  have p1 := ra1.out.cell (k := 1) rfl
  have q1 := ra1.out.free 1
  have K1 := hide (k1.out.set (gb := w.heap.size + 1) (by omega) hg 1 (.int .i64 (v1 : Int)))
  have RA1 := hide (ra1.out.set_ 1 (.int .i64 (v1 : Int)))
  have RB1 := hide (rb1.out.far (p := ⟨w.heap.size + 1, 1, none⟩) (by simp) (.int .i64 (v1 : Int)))
  clear k1 ra1 rb1
  have xa0 := RA1.out.cell (k := 0) rfl
  have xa1 := RA1.out.cell (k := 1) rfl
  have xa2 := RA1.out.cell (k := 2) rfl
  have xa3 := RA1.out.cell (k := 3) rfl
  have xa4 := RA1.out.cell (k := 4) rfl
  have x0 := RB1.out.cell (k := 0) rfl
  have y0 := RB1.out.free 0
  have x1 := RB1.out.cell (k := 1) rfl
  have y1 := RB1.out.free 1
  have x2 := RB1.out.cell (k := 2) rfl
  have y2 := RB1.out.free 2
  have x3 := RB1.out.cell (k := 3) rfl
  have y3 := RB1.out.free 3
  have x4 := RB1.out.cell (k := 4) rfl
  have y4 := RB1.out.free 4
  go_wp2
  have hf := (((((RB1.out).set_ 0 (.int .i64 z)).set_ 1 (.int .i64 (v1 : Int))).set_ 2 (.int .i64 0)).set_ 3 (.int .i64 0)).set_ 4 (.int .u64 0)
  have KF := (((((K1.out).set (Nat.le_refl w.heap.size) hg 0 (.int .i64 z)).set (Nat.le_refl w.heap.size) hg 1 (.int .i64 (v1 : Int))).set (Nat.le_refl w.heap.size) hg 2 (.int .i64 0)).set (Nat.le_refl w.heap.size) hg 3 (.int .i64 0)).set (Nat.le_refl w.heap.size) hg 4 (.int .u64 0)
  have f0 := hf.cell (k := 0) rfl
  have f1 := hf.cell (k := 1) rfl
  have f2 := hf.cell (k := 2) rfl
  have f3 := hf.cell (k := 3) rfl
  have f4 := hf.cell (k := 4) rfl
  refine bodyPost_ret (v := iv z (v1 : Int) 0 0 0) (by simp [results, Tryd.results89, go_sem, f0, f1, f2, f3, f4]) rfl ⟨z, (v1 : Int), 0, 0, 0, rfl, (by rw [ES.out]; exact KF.r), KF.g, ?_⟩
  exact EV.out

set_option maxRecDepth 100000 in
set_option maxHeartbeats 1600000 in
theorem instr_ai (g b off n c en : Nat) (zs : List Int) (t : List Int) (z : Int) (w : World) (hz : Hid (Src n c zs)) (h : Hid (RdSt w g b off n c zs en (.ok () (z :: t)))) (hen : en ≤ n) (h25 : z < 25) (ha : Hid (useA z = true)) (hb : Hid (useB z = false)) (hc : Hid (useC z = false)) (hi : Hid (useI z = true)) :
    Calls Tryd.prog 89 #[.pointer (some ⟨g, 0, none⟩)] w (InPost g b off n c zs en (.ok () (z :: t)) w) := by
  have hg := h.out.lt
  have hne : w.heap.size ≠ g := by omega
  obtain ⟨W, hW⟩ : ∃ W, w.alloc (.cells #[.int .i64 0, .int .i64 0, .int .i64 0, .int .i64 0, .int .u64 0] 49) = W := ⟨_, rfl⟩
  have HW := hide hW
  have K0 := hide (show Kp w g b off n c zs en (.ok () (z :: t)) W by rw [← hW]; exact (Kp.start h.out).alloc _)
  have hrow := hide (show Row W w.heap.size 49 zIns by rw [← hW]; exact Row.new w _ _)
  have hWs : W.heap.size = w.heap.size + 1 := by rw [← hW]; simp
  clear hW
  obtain ⟨k, e, r, hke, rfl, hs⟩ := K0.out.r
  obtain ⟨hk, cz, z0, z255, hs2⟩ := next_byte hz.out r hs hen
  have c0 := r.row.cell (k := 0) rfl
  have c1 := r.row.cell (k := 1) rfl
  have c2 := r.row.cell (k := 2) rfl
  have c3 := r.row.cell (k := 3) rfl
  have q1 := r.row.free 1
  have hkz : (k : Int) < (en : Int) := by omega
  have hkn : (k : Int) < (n : Int) := by omega
  have hmost := hz.out.most
  have hbl := World.block_lt_of_cell? _ _ cz
  have gl : g < W.heap.size := by omega
  have cz' : ∀ (q : Nat) (o : Obj), ((W.drewN q).alloc o).cell? ⟨b, off + k, none⟩ = some (.int .u8 z) := fun q o => (World.cell?_alloc_lt (W.drewN q) o _ hbl).trans cz
  have c0' : ∀ (q : Nat) (o : Obj), ((W.drewN q).alloc o).cell? ⟨g, 0, none⟩ = some (.slice (some ⟨b, off, none⟩) n c) := fun q o => (World.cell?_alloc_lt (W.drewN q) o _ gl).trans c0
  have c1' : ∀ (q : Nat) (o : Obj), ((W.drewN q).alloc o).cell? ⟨g, 1, none⟩ = some (.int .i64 (k : Int)) := fun q o => (World.cell?_alloc_lt (W.drewN q) o _ gl).trans c1
  have q1' : ∀ (q : Nat) (o : Obj), ((W.drewN q).alloc o).frozen? ⟨g, 1, none⟩ = false := fun q o => ((r.row.drewN q).alloc o).free 1
  have hop : ∀ (q : Nat) (l : List Value), ((W.drewN q).alloc (.cells (.int .i64 z :: l).toArray 49)).cell? ⟨w.heap.size + 1, 0, none⟩ = some (.int .i64 z) := fun q l => ((Row.new (W.drewN q) 49 (.int .i64 z :: l)).at_ (by show W.heap.size = _; exact hWs)).cell (k := 0) rfl
  have KA := hide (fun q : Nat => (show Kp w g b off n c zs en (.ok () t) (((W.drewN q).setCell ⟨g, 1, none⟩ (.int .i64 ((k : Int) + 1))).alloc (.cells #[.int .i64 z, .int .i64 0, .int .i64 0, .int .i64 0, .int .u64 0] 49)) from by
    have h1 := K0.out.drewN q
    have r2 := RdAt.set_at (w := W.drewN q) (e := 0) (k := k) ⟨r.row.drewN q, r.see.draws q⟩ (k + 1)
    rw [show (((k + 1 : Nat)) : Int) = (k : Int) + 1 by omega] at r2
    have h2 : Kp w g b off n c zs en (.ok () t) ((W.drewN q).setCell ⟨g, 1, none⟩ (.int .i64 ((k : Int) + 1))) := ⟨⟨k + 1, 0, r2, by omega, rfl, hs2⟩, grown_set h1.g 1 _⟩
    exact h2.alloc _))
  have RA := hide (fun q : Nat => (show Row (((W.drewN q).setCell ⟨g, 1, none⟩ (.int .i64 ((k : Int) + 1))).alloc (.cells #[.int .i64 z, .int .i64 0, .int .i64 0, .int .i64 0, .int .u64 0] 49)) (w.heap.size + 1) 49 [.int .i64 z, .int .i64 0, .int .i64 0, .int .i64 0, .int .u64 0] from
    (Row.new ((W.drewN q).setCell ⟨g, 1, none⟩ (.int .i64 ((k : Int) + 1))) 49 [.int .i64 z, .int .i64 0, .int .i64 0, .int .i64 0, .int .u64 0]).at_ (by simp [World.setCell]; exact hWs)))
  have RB := hide (fun q : Nat => (show Row (((W.drewN q).setCell ⟨g, 1, none⟩ (.int .i64 ((k : Int) + 1))).alloc (.cells #[.int .i64 z, .int .i64 0, .int .i64 0, .int .i64 0, .int .u64 0] 49)) w.heap.size 49 zIns from
    ((hrow.out.drewN q).far (by simpa using hne) _).alloc _))
  have E := hide (show ((Rd.ok () (z :: t) : Rd Unit).to insR) = opsR (useA z) (useB z) (useC z) (useI z) z t from insR_near h25)
  rw [ha.out, hb.out, hc.out, hi.out] at E
  obtain ⟨v1, hv1⟩ : ∃ v, Hid (v = vlN true numR (.ok () t)) := ⟨_, hide rfl⟩
  obtain ⟨S1, hS1⟩ : ∃ T, Hid (T = stN true numR (.ok () t)) := ⟨_, hide rfl⟩
  obtain ⟨v2, hv2⟩ : ∃ v, Hid (v = vlN true wordR S1) := ⟨_, hide rfl⟩
  obtain ⟨S2, hS2⟩ : ∃ T, Hid (T = stN true wordR S1) := ⟨_, hide rfl⟩
  have ES := hide (show ((Rd.ok () (z :: t) : Rd Unit).to insR).st = S2 by
    rw [E.out, ops_st, hS2.out, hS1.out]
    rfl)
  have EV := hide (show ∀ (s : Ins) (r : List Int), (Rd.ok () (z :: t) : Rd Unit).to insR = .ok s r → (⟨z, (v1 : Int), 0, 0, (v2 : Int)⟩ : Ins) = s by
    intro s r e
    rw [E.out] at e
    rw [ops_val e, hv2.out, hv1.out, hS1.out]
    rfl)
  clear r hs hs2 K0 hrow E
  go_enter Tryd.func89, Tryd.ntmps89
  go_wp2_with fail
  rw [HW.out]
  go_quiet (fail)
  go_wp2_with fail
  go_quiet (fail)
  go_wp2_with fail
  go_region
  go_wp2_with fail
  refine (ropd_any z _ z0 h25).mono ?_
  rintro e w9 ⟨rfl, hw9⟩
  have K9 := hide (show Kp w g b off n c zs en (.ok () t) w9 by rw [← hw9]; exact KA.out _)
  have RA9 := hide (show Row w9 (w.heap.size + 1) 49 [.int .i64 z, .int .i64 0, .int .i64 0, .int .i64 0, .int .u64 0] by rw [← hw9]; exact RA.out _)
  have RB9 := hide (show Row w9 w.heap.size 49 zIns by rw [← hw9]; exact RB.out _)
  clear hw9 KA RA RB
  rw [ha.out, hb.out, hc.out, hi.out]
  clear c0 c1 c2 c3 q1 cz cz' c0' c1' q1' hop
  go_wp2_with fail
  refine (num_at hz (hide K9.out.r) hen hS1 hv1).mono ?_
  rintro e w1 ⟨rfl, hR, hG⟩
  have k1 := hide (K9.out.to hR hG)
  have ra1 := hide (RA9.out.grown hG (fun e => by injection e with e; omega))
  have rb1 := hide (RB9.out.grown hG (fun e => by injection e with e; omega))
  clear hR hG K9 RA9 RB9
  have p1 := ra1.out.cell (k := 1) rfl
  have q1 := ra1.out.free 1
  have K1 := hide (k1.out.set (gb := w.heap.size + 1) (by omega) hg 1 (.int .i64 (v1 : Int)))
  have RA1 := hide (ra1.out.set_ 1 (.int .i64 (v1 : Int)))
  have RB1 := hide (rb1.out.far (p := ⟨w.heap.size + 1, 1, none⟩) (by simp) (.int .i64 (v1 : Int)))
  clear k1 ra1 rb1
  go_wp2_with fail
  refine (word_at hz (hide K1.out.r) hen hS2 hv2).mono ?_
  rintro e w2 ⟨rfl, hR, hG⟩
  have k2 := hide (K1.out.to hR hG)
  have ra2 := hide (RA1.out.grown hG (fun e => by injection e with e; omega))
  have rb2 := hide (RB1.out.grown hG (fun e => by injection e with e; omega))
  clear hR hG K1 RA1 RB1
  have p2 := ra2.out.cell (k := 4) rfl
  have q2 := ra2.out.free 4
  have K2 := hide (k2.out.set (gb := w.heap.size + 1) (by omega) hg 4 (.int .u64 (v2 : Int)))
  have RA2 := hide (ra2.out.set_ 4 (.int .u64 (v2 : Int)))
  have RB2 := hide (rb2.out.far (p := ⟨w.heap.size + 1, 4, none⟩) (by simp) (.int .u64 (v2 : Int)))
  clear k2 ra2 rb2
  have xa0 := RA2.out.cell (k := 0) rfl
  have xa1 := RA2.out.cell (k := 1) rfl
  have xa2 := RA2.out.cell (k := 2) rfl
  have xa3 := RA2.out.cell (k := 3) rfl
  have xa4 := RA2.out.cell (k := 4) rfl
  have x0 := RB2.out.cell (k := 0) rfl
  have y0 := RB2.out.free 0
  have x1 := RB2.out.cell (k := 1) rfl
  have y1 := RB2.out.free 1
  have x2 := RB2.out.cell (k := 2) rfl
  have y2 := RB2.out.free 2
  have x3 := RB2.out.cell (k := 3) rfl
  have y3 := RB2.out.free 3
  have x4 := RB2.out.cell (k := 4) rfl
  have y4 := RB2.out.free 4
  go_wp2
  have hf := (((((RB2.out).set_ 0 (.int .i64 z)).set_ 1 (.int .i64 (v1 : Int))).set_ 2 (.int .i64 0)).set_ 3 (.int .i64 0)).set_ 4 (.int .u64 (v2 : Int))
  have KF := (((((K2.out).set (Nat.le_refl w.heap.size) hg 0 (.int .i64 z)).set (Nat.le_refl w.heap.size) hg 1 (.int .i64 (v1 : Int))).set (Nat.le_refl w.heap.size) hg 2 (.int .i64 0)).set (Nat.le_refl w.heap.size) hg 3 (.int .i64 0)).set (Nat.le_refl w.heap.size) hg 4 (.int .u64 (v2 : Int))
  have f0 := hf.cell (k := 0) rfl
  have f1 := hf.cell (k := 1) rfl
  have f2 := hf.cell (k := 2) rfl
  have f3 := hf.cell (k := 3) rfl
  have f4 := hf.cell (k := 4) rfl
  refine bodyPost_ret (v := iv z (v1 : Int) 0 0 (v2 : Int)) (by simp [results, Tryd.results89, go_sem, f0, f1, f2, f3, f4]) rfl ⟨z, (v1 : Int), 0, 0, (v2 : Int), rfl, (by rw [ES.out]; exact KF.r), KF.g, ?_⟩
  exact EV.out

set_option maxRecDepth 100000 in
set_option maxHeartbeats 1600000 in
theorem instr_i (g b off n c en : Nat) (zs : List Int) (t : List Int) (z : Int) (w : World) (hz : Hid (Src n c zs)) (h : Hid (RdSt w g b off n c zs en (.ok () (z :: t)))) (hen : en ≤ n) (h25 : z < 25) (ha : Hid (useA z = false)) (hb : Hid (useB z = false)) (hc : Hid (useC z = false)) (hi : Hid (useI z = true)) :
    Calls Tryd.prog 89 #[.pointer (some ⟨g, 0, none⟩)] w (InPost g b off n c zs en (.ok () (z :: t)) w) := by
  have hg := h.out.lt
  have hne : w.heap.size ≠ g := by omega
  obtain ⟨W, hW⟩ : ∃ W, w.alloc (.cells #[.int .i64 0, .int .i64 0, .int .i64 0, .int .i64 0, .int .u64 0] 49) = W := ⟨_, rfl⟩
  have HW := hide hW
  have K0 := hide (show Kp w g b off n c zs en (.ok () (z :: t)) W by rw [← hW]; exact (Kp.start h.out).alloc _)
  have hrow := hide (show Row W w.heap.size 49 zIns by rw [← hW]; exact Row.new w _ _)
  have hWs : W.heap.size = w.heap.size + 1 := by rw [← hW]; simp
  clear hW
  obtain ⟨k, e, r, hke, rfl, hs⟩ := K0.out.r
  obtain ⟨hk, cz, z0, z255, hs2⟩ := next_byte hz.out r hs hen
  have c0 := r.row.cell (k := 0) rfl
  have c1 := r.row.cell (k := 1) rfl
  have c2 := r.row.cell (k := 2) rfl
  have c3 := r.row.cell (k := 3) rfl
  have q1 := r.row.free 1
  have hkz : (k : Int) < (en : Int) := by omega
  have hkn : (k : Int) < (n : Int) := by omega
  have hmost := hz.out.most
  have hbl := World.block_lt_of_cell? _ _ cz
  have gl : g < W.heap.size := by omega
  have cz' : ∀ (q : Nat) (o : Obj), ((W.drewN q).alloc o).cell? ⟨b, off + k, none⟩ = some (.int .u8 z) := fun q o => (World.cell?_alloc_lt (W.drewN q) o _ hbl).trans cz
  have c0' : ∀ (q : Nat) (o : Obj), ((W.drewN q).alloc o).cell? ⟨g, 0, none⟩ = some (.slice (some ⟨b, off, none⟩) n c) := fun q o => (World.cell?_alloc_lt (W.drewN q) o _ gl).trans c0
  have c1' : ∀ (q : Nat) (o : Obj), ((W.drewN q).alloc o).cell? ⟨g, 1, none⟩ = some (.int .i64 (k : Int)) := fun q o => (World.cell?_alloc_lt (W.drewN q) o _ gl).trans c1
  have q1' : ∀ (q : Nat) (o : Obj), ((W.drewN q).alloc o).frozen? ⟨g, 1, none⟩ = false := fun q o => ((r.row.drewN q).alloc o).free 1
  have hop : ∀ (q : Nat) (l : List Value), ((W.drewN q).alloc (.cells (.int .i64 z :: l).toArray 49)).cell? ⟨w.heap.size + 1, 0, none⟩ = some (.int .i64 z) := fun q l => ((Row.new (W.drewN q) 49 (.int .i64 z :: l)).at_ (by show W.heap.size = _; exact hWs)).cell (k := 0) rfl
  have KA := hide (fun q : Nat => (show Kp w g b off n c zs en (.ok () t) (((W.drewN q).setCell ⟨g, 1, none⟩ (.int .i64 ((k : Int) + 1))).alloc (.cells #[.int .i64 z, .int .i64 0, .int .i64 0, .int .i64 0, .int .u64 0] 49)) from by
    have h1 := K0.out.drewN q
    have r2 := RdAt.set_at (w := W.drewN q) (e := 0) (k := k) ⟨r.row.drewN q, r.see.draws q⟩ (k + 1)
    rw [show (((k + 1 : Nat)) : Int) = (k : Int) + 1 by omega] at r2
    have h2 : Kp w g b off n c zs en (.ok () t) ((W.drewN q).setCell ⟨g, 1, none⟩ (.int .i64 ((k : Int) + 1))) := ⟨⟨k + 1, 0, r2, by omega, rfl, hs2⟩, grown_set h1.g 1 _⟩
    exact h2.alloc _))
  have RA := hide (fun q : Nat => (show Row (((W.drewN q).setCell ⟨g, 1, none⟩ (.int .i64 ((k : Int) + 1))).alloc (.cells #[.int .i64 z, .int .i64 0, .int .i64 0, .int .i64 0, .int .u64 0] 49)) (w.heap.size + 1) 49 [.int .i64 z, .int .i64 0, .int .i64 0, .int .i64 0, .int .u64 0] from
    (Row.new ((W.drewN q).setCell ⟨g, 1, none⟩ (.int .i64 ((k : Int) + 1))) 49 [.int .i64 z, .int .i64 0, .int .i64 0, .int .i64 0, .int .u64 0]).at_ (by simp [World.setCell]; exact hWs)))
  have RB := hide (fun q : Nat => (show Row (((W.drewN q).setCell ⟨g, 1, none⟩ (.int .i64 ((k : Int) + 1))).alloc (.cells #[.int .i64 z, .int .i64 0, .int .i64 0, .int .i64 0, .int .u64 0] 49)) w.heap.size 49 zIns from
    ((hrow.out.drewN q).far (by simpa using hne) _).alloc _))
  have E := hide (show ((Rd.ok () (z :: t) : Rd Unit).to insR) = opsR (useA z) (useB z) (useC z) (useI z) z t from insR_near h25)
  rw [ha.out, hb.out, hc.out, hi.out] at E
  obtain ⟨v1, hv1⟩ : ∃ v, Hid (v = vlN true wordR (.ok () t)) := ⟨_, hide rfl⟩
  obtain ⟨S1, hS1⟩ : ∃ T, Hid (T = stN true wordR (.ok () t)) := ⟨_, hide rfl⟩
  have ES := hide (show ((Rd.ok () (z :: t) : Rd Unit).to insR).st = S1 by
    rw [E.out, ops_st, hS1.out]
    rfl)
  have EV := hide (show ∀ (s : Ins) (r : List Int), (Rd.ok () (z :: t) : Rd Unit).to insR = .ok s r → (⟨z, 0, 0, 0, (v1 : Int)⟩ : Ins) = s by
    intro s r e
    rw [E.out] at e
    rw [ops_val e, hv1.out]
    rfl)
  clear r hs hs2 K0 hrow E
  go_enter Tryd.func89, Tryd.ntmps89
  go_wp2_with fail
  rw [HW.out]
  go_quiet (fail)
  go_wp2_with fail
  go_quiet (fail)
  go_wp2_with fail
  go_region
  go_wp2_with fail
  refine (ropd_any z _ z0 h25).mono ?_
  rintro e w9 ⟨rfl, hw9⟩
  have K9 := hide (show Kp w g b off n c zs en (.ok () t) w9 by rw [← hw9]; exact KA.out _)
  have RA9 := hide (show Row w9 (w.heap.size + 1) 49 [.int .i64 z, .int .i64 0, .int .i64 0, .int .i64 0, .int .u64 0] by rw [← hw9]; exact RA.out _)
  have RB9 := hide (show Row w9 w.heap.size 49 zIns by rw [← hw9]; exact RB.out _)
  clear hw9 KA RA RB
  rw [ha.out, hb.out, hc.out, hi.out]
  clear c0 c1 c2 c3 q1 cz cz' c0' c1' q1' hop
  go_wp2_with fail
  refine (word_at hz (hide K9.out.r) hen hS1 hv1).mono ?_
  rintro e w1 ⟨rfl, hR, hG⟩
  have k1 := hide (K9.out.to hR hG)
  have ra1 := hide (RA9.out.grown hG (fun e => by injection e with e; omega))
  have rb1 := hide (RB9.out.grown hG (fun e => by injection e with e; omega))
  clear hR hG K9 RA9 RB9
  have p1 := ra1.out.cell (k := 4) rfl
  have q1 := ra1.out.free 4
  have K1 := hide (k1.out.set (gb := w.heap.size + 1) (by omega) hg 4 (.int .u64 (v1 : Int)))
  have RA1 := hide (ra1.out.set_ 4 (.int .u64 (v1 : Int)))
  have RB1 := hide (rb1.out.far (p := ⟨w.heap.size + 1, 4, none⟩) (by simp) (.int .u64 (v1 : Int)))
  clear k1 ra1 rb1
  have xa0 := RA1.out.cell (k := 0) rfl
  have xa1 := RA1.out.cell (k := 1) rfl
  have xa2 := RA1.out.cell (k := 2) rfl
  have xa3 := RA1.out.cell (k := 3) rfl
  have xa4 := RA1.out.cell (k := 4) rfl
  have x0 := RB1.out.cell (k := 0) rfl
  have y0 := RB1.out.free 0
  have x1 := RB1.out.cell (k := 1) rfl
  have y1 := RB1.out.free 1
  have x2 := RB1.out.cell (k := 2) rfl
  have y2 := RB1.out.free 2
  have x3 := RB1.out.cell (k := 3) rfl
  have y3 := RB1.out.free 3
  have x4 := RB1.out.cell (k := 4) rfl
  have y4 := RB1.out.free 4
  go_wp2
  have hf := (((((RB1.out).set_ 0 (.int .i64 z)).set_ 1 (.int .i64 0)).set_ 2 (.int .i64 0)).set_ 3 (.int .i64 0)).set_ 4 (.int .u64 (v1 : Int))
  have KF := (((((K1.out).set (Nat.le_refl w.heap.size) hg 0 (.int .i64 z)).set (Nat.le_refl w.heap.size) hg 1 (.int .i64 0)).set (Nat.le_refl w.heap.size) hg 2 (.int .i64 0)).set (Nat.le_refl w.heap.size) hg 3 (.int .i64 0)).set (Nat.le_refl w.heap.size) hg 4 (.int .u64 (v1 : Int))
  have f0 := hf.cell (k := 0) rfl
  have f1 := hf.cell (k := 1) rfl
  have f2 := hf.cell (k := 2) rfl
  have f3 := hf.cell (k := 3) rfl
  have f4 := hf.cell (k := 4) rfl
  refine bodyPost_ret (v := iv z 0 0 0 (v1 : Int)) (by simp [results, Tryd.results89, go_sem, f0, f1, f2, f3, f4]) rfl ⟨z, 0, 0, 0, (v1 : Int), rfl, (by rw [ES.out]; exact KF.r), KF.g, ?_⟩
  exact EV.out

set_option maxRecDepth 100000 in
set_option maxHeartbeats 1600000 in
theorem instr_o (g b off n c en : Nat) (zs : List Int) (t : List Int) (z : Int) (w : World) (hz : Hid (Src n c zs)) (h : Hid (RdSt w g b off n c zs en (.ok () (z :: t)))) (hen : en ≤ n) (h25 : z < 25) (ha : Hid (useA z = false)) (hb : Hid (useB z = false)) (hc : Hid (useC z = false)) (hi : Hid (useI z = false)) :
    Calls Tryd.prog 89 #[.pointer (some ⟨g, 0, none⟩)] w (InPost g b off n c zs en (.ok () (z :: t)) w) := by
  have hg := h.out.lt
  have hne : w.heap.size ≠ g := by omega
  obtain ⟨W, hW⟩ : ∃ W, w.alloc (.cells #[.int .i64 0, .int .i64 0, .int .i64 0, .int .i64 0, .int .u64 0] 49) = W := ⟨_, rfl⟩
  have HW := hide hW
  have K0 := hide (show Kp w g b off n c zs en (.ok () (z :: t)) W by rw [← hW]; exact (Kp.start h.out).alloc _)
  have hrow := hide (show Row W w.heap.size 49 zIns by rw [← hW]; exact Row.new w _ _)
  have hWs : W.heap.size = w.heap.size + 1 := by rw [← hW]; simp
  clear hW
  obtain ⟨k, e, r, hke, rfl, hs⟩ := K0.out.r
  obtain ⟨hk, cz, z0, z255, hs2⟩ := next_byte hz.out r hs hen
  have c0 := r.row.cell (k := 0) rfl
  have c1 := r.row.cell (k := 1) rfl
  have c2 := r.row.cell (k := 2) rfl
  have c3 := r.row.cell (k := 3) rfl
  have q1 := r.row.free 1
  have hkz : (k : Int) < (en : Int) := by omega
  have hkn : (k : Int) < (n : Int) := by omega
  have hmost := hz.out.most
  have hbl := World.block_lt_of_cell? _ _ cz
  have gl : g < W.heap.size := by omega
  have cz' : ∀ (q : Nat) (o : Obj), ((W.drewN q).alloc o).cell? ⟨b, off + k, none⟩ = some (.int .u8 z) := fun q o => (World.cell?_alloc_lt (W.drewN q) o _ hbl).trans cz
  have c0' : ∀ (q : Nat) (o : Obj), ((W.drewN q).alloc o).cell? ⟨g, 0, none⟩ = some (.slice (some ⟨b, off, none⟩) n c) := fun q o => (World.cell?_alloc_lt (W.drewN q) o _ gl).trans c0
  have c1' : ∀ (q : Nat) (o : Obj), ((W.drewN q).alloc o).cell? ⟨g, 1, none⟩ = some (.int .i64 (k : Int)) := fun q o => (World.cell?_alloc_lt (W.drewN q) o _ gl).trans c1
  have q1' : ∀ (q : Nat) (o : Obj), ((W.drewN q).alloc o).frozen? ⟨g, 1, none⟩ = false := fun q o => ((r.row.drewN q).alloc o).free 1
  have hop : ∀ (q : Nat) (l : List Value), ((W.drewN q).alloc (.cells (.int .i64 z :: l).toArray 49)).cell? ⟨w.heap.size + 1, 0, none⟩ = some (.int .i64 z) := fun q l => ((Row.new (W.drewN q) 49 (.int .i64 z :: l)).at_ (by show W.heap.size = _; exact hWs)).cell (k := 0) rfl
  have KA := hide (fun q : Nat => (show Kp w g b off n c zs en (.ok () t) (((W.drewN q).setCell ⟨g, 1, none⟩ (.int .i64 ((k : Int) + 1))).alloc (.cells #[.int .i64 z, .int .i64 0, .int .i64 0, .int .i64 0, .int .u64 0] 49)) from by
    have h1 := K0.out.drewN q
    have r2 := RdAt.set_at (w := W.drewN q) (e := 0) (k := k) ⟨r.row.drewN q, r.see.draws q⟩ (k + 1)
    rw [show (((k + 1 : Nat)) : Int) = (k : Int) + 1 by omega] at r2
    have h2 : Kp w g b off n c zs en (.ok () t) ((W.drewN q).setCell ⟨g, 1, none⟩ (.int .i64 ((k : Int) + 1))) := ⟨⟨k + 1, 0, r2, by omega, rfl, hs2⟩, grown_set h1.g 1 _⟩
    exact h2.alloc _))
  have RA := hide (fun q : Nat => (show Row (((W.drewN q).setCell ⟨g, 1, none⟩ (.int .i64 ((k : Int) + 1))).alloc (.cells #[.int .i64 z, .int .i64 0, .int .i64 0, .int .i64 0, .int .u64 0] 49)) (w.heap.size + 1) 49 [.int .i64 z, .int .i64 0, .int .i64 0, .int .i64 0, .int .u64 0] from
    (Row.new ((W.drewN q).setCell ⟨g, 1, none⟩ (.int .i64 ((k : Int) + 1))) 49 [.int .i64 z, .int .i64 0, .int .i64 0, .int .i64 0, .int .u64 0]).at_ (by simp [World.setCell]; exact hWs)))
  have RB := hide (fun q : Nat => (show Row (((W.drewN q).setCell ⟨g, 1, none⟩ (.int .i64 ((k : Int) + 1))).alloc (.cells #[.int .i64 z, .int .i64 0, .int .i64 0, .int .i64 0, .int .u64 0] 49)) w.heap.size 49 zIns from
    ((hrow.out.drewN q).far (by simpa using hne) _).alloc _))
  have E := hide (show ((Rd.ok () (z :: t) : Rd Unit).to insR) = opsR (useA z) (useB z) (useC z) (useI z) z t from insR_near h25)
  rw [ha.out, hb.out, hc.out, hi.out] at E
  have ES := hide (show ((Rd.ok () (z :: t) : Rd Unit).to insR).st = (.ok () t) by
    rw [E.out, ops_st]
    rfl)
  have EV := hide (show ∀ (s : Ins) (r : List Int), (Rd.ok () (z :: t) : Rd Unit).to insR = .ok s r → (⟨z, 0, 0, 0, 0⟩ : Ins) = s by
    intro s r e
    rw [E.out] at e
    rw [ops_val e]
    rfl)
  clear r hs hs2 K0 hrow E
  go_enter Tryd.func89, Tryd.ntmps89
  go_wp2_with fail
  rw [HW.out]
  go_quiet (fail)
  go_wp2_with fail
  go_quiet (fail)
  go_wp2_with fail
  go_region
  go_wp2_with fail
  refine (ropd_any z _ z0 h25).mono ?_
  rintro e w9 ⟨rfl, hw9⟩
  have K9 := hide (show Kp w g b off n c zs en (.ok () t) w9 by rw [← hw9]; exact KA.out _)
  have RA9 := hide (show Row w9 (w.heap.size + 1) 49 [.int .i64 z, .int .i64 0, .int .i64 0, .int .i64 0, .int .u64 0] by rw [← hw9]; exact RA.out _)
  have RB9 := hide (show Row w9 w.heap.size 49 zIns by rw [← hw9]; exact RB.out _)
  clear hw9 KA RA RB
  rw [ha.out, hb.out, hc.out, hi.out]
  clear c0 c1 c2 c3 q1 cz cz' c0' c1' q1' hop
  have xa0 := RA9.out.cell (k := 0) rfl
  have xa1 := RA9.out.cell (k := 1) rfl
  have xa2 := RA9.out.cell (k := 2) rfl
  have xa3 := RA9.out.cell (k := 3) rfl
  have xa4 := RA9.out.cell (k := 4) rfl
  have x0 := RB9.out.cell (k := 0) rfl
  have y0 := RB9.out.free 0
  have x1 := RB9.out.cell (k := 1) rfl
  have y1 := RB9.out.free 1
  have x2 := RB9.out.cell (k := 2) rfl
  have y2 := RB9.out.free 2
  have x3 := RB9.out.cell (k := 3) rfl
  have y3 := RB9.out.free 3
  have x4 := RB9.out.cell (k := 4) rfl
  have y4 := RB9.out.free 4
  go_wp2
  have hf := (((((RB9.out).set_ 0 (.int .i64 z)).set_ 1 (.int .i64 0)).set_ 2 (.int .i64 0)).set_ 3 (.int .i64 0)).set_ 4 (.int .u64 0)
  have KF := (((((K9.out).set (Nat.le_refl w.heap.size) hg 0 (.int .i64 z)).set (Nat.le_refl w.heap.size) hg 1 (.int .i64 0)).set (Nat.le_refl w.heap.size) hg 2 (.int .i64 0)).set (Nat.le_refl w.heap.size) hg 3 (.int .i64 0)).set (Nat.le_refl w.heap.size) hg 4 (.int .u64 0)
  have f0 := hf.cell (k := 0) rfl
  have f1 := hf.cell (k := 1) rfl
  have f2 := hf.cell (k := 2) rfl
  have f3 := hf.cell (k := 3) rfl
  have f4 := hf.cell (k := 4) rfl
  refine bodyPost_ret (v := iv z 0 0 0 0) (by simp [results, Tryd.results89, go_sem, f0, f1, f2, f3, f4]) rfl ⟨z, 0, 0, 0, 0, rfl, (by rw [ES.out]; exact KF.r), KF.g, ?_⟩
  exact EV.out

theorem shapes_of {z : Int} (h0 : 0 ≤ z) (h1 : z < 25) : (useA z = true ∧ useB z = true ∧ useC z = true ∧ useI z = false) ∨ (useA z = true ∧ useB z = true ∧ useC z = false ∧ useI z = false) ∨ (useA z = true ∧ useB z = false ∧ useC z = false ∧ useI z = false) ∨ (useA z = true ∧ useB z = false ∧ useC z = false ∧ useI z = true) ∨ (useA z = false ∧ useB z = false ∧ useC z = false ∧ useI z = true) ∨ (useA z = false ∧ useB z = false ∧ useC z = false ∧ useI z = false) := by
  have e : ∀ k : Fin 25, (useA (k.val : Int) = true ∧ useB (k.val : Int) = true ∧ useC (k.val : Int) = true ∧ useI (k.val : Int) = false) ∨ (useA (k.val : Int) = true ∧ useB (k.val : Int) = true ∧ useC (k.val : Int) = false ∧ useI (k.val : Int) = false) ∨ (useA (k.val : Int) = true ∧ useB (k.val : Int) = false ∧ useC (k.val : Int) = false ∧ useI (k.val : Int) = false) ∨ (useA (k.val : Int) = true ∧ useB (k.val : Int) = false ∧ useC (k.val : Int) = false ∧ useI (k.val : Int) = true) ∨ (useA (k.val : Int) = false ∧ useB (k.val : Int) = false ∧ useC (k.val : Int) = false ∧ useI (k.val : Int) = true) ∨ (useA (k.val : Int) = false ∧ useB (k.val : Int) = false ∧ useC (k.val : Int) = false ∧ useI (k.val : Int) = false) := by decide
  have := e ⟨z.toNat, by omega⟩
  simp only at this
  rwa [Int.toNat_of_nonneg h0] at this
theorem instr_any (g b off n c en : Nat) (zs : List Int) (S : Rd Unit) (w : World) (hz : Hid (Src n c zs)) (h : Hid (RdSt w g b off n c zs en S)) (hen : en ≤ n) :
    Calls Tryd.prog 89 #[.pointer (some ⟨g, 0, none⟩)] w (InPost g b off n c zs en S w) := by
  cases S with
  | no x => exact instr_no g b off n c en zs x w h
  | ok u l =>
    cases l with
    | nil => exact instr_end g b off n c en zs w hz h hen
    | cons z t =>
      by_cases h25 : 25 ≤ z
      · exact instr_far g b off n c en zs t z w hz h hen h25
      · have h0 : 0 ≤ z := (h.out.byt hz.out z List.mem_cons_self).1
        rcases shapes_of h0 (by omega) with ⟨a1, a2, a3, a4⟩ | ⟨a1, a2, a3, a4⟩ | ⟨a1, a2, a3, a4⟩ | ⟨a1, a2, a3, a4⟩ | ⟨a1, a2, a3, a4⟩ | ⟨a1, a2, a3, a4⟩
        · exact instr_aaa g b off n c en zs t z w hz h hen (by omega) (hide a1) (hide a2) (hide a3) (hide a4)
        · exact instr_aa g b off n c en zs t z w hz h hen (by omega) (hide a1) (hide a2) (hide a3) (hide a4)
        · exact instr_a g b off n c en zs t z w hz h hen (by omega) (hide a1) (hide a2) (hide a3) (hide a4)
        · exact instr_ai g b off n c en zs t z w hz h hen (by omega) (hide a1) (hide a2) (hide a3) (hide a4)
        · exact instr_i g b off n c en zs t z w hz h hen (by omega) (hide a1) (hide a2) (hide a3) (hide a4)
        · exact instr_o g b off n c en zs t z w hz h hen (by omega) (hide a1) (hide a2) (hide a3) (hide a4)
end Go.Proofs.YtgcjckbndkddmaaDoor
end
