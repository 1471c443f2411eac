import Derived.Test.YtlcmcmocjbeocaaGreatDoorMRefuint
import Derived.Test.YtlcmcmocjbeocaaGreatDoorMQlp
import Derived.RegionTactic
import Derived.BigQuiet
set_option linter.unusedVariables false
set_option linter.unusedSimpArgs false
section
/-
  The contract of chapter 11's reference: its reader's instr. Conditions: from 1 to 2^20 bytes.
-/
namespace Go.Proofs.YtlcmcmocjbeocaaGreatDoor
open Go.RowKit

/-- A reader that has turned to S, since w. -/
structure Ks (w : World) (g b off n c : Nat) (zs : List Int) (S : Rd Unit) (w' : World) : Prop where
  r : RsSt w' g b off n c zs S
  g : w.grownBy w' (some g)
section
variable {w w' w'' : World} {g b off n c : Nat} {zs : List Int} {S T : Rd Unit}
theorem Ks.set {gb : Nat} (h : Ks w g b off n c zs S w') (hgb : w.heap.size ≤ gb) (hg : g < w.heap.size) (k : Nat) (u : Value) : Ks w g b off n c zs S (w'.setCell ⟨gb, k, none⟩ u) :=
  ⟨h.r.kept (grown_put w' gb k u) (fun j hj => by injection hj with hj; omega), h.g.andThen (grown_put w' gb k u) (fun j hj => .inl (by injection hj with hj; omega))⟩
theorem Ks.alloc (h : Ks w g b off n c zs S w') (o : Obj) : Ks w g b off n c zs S (w'.alloc o) := ⟨h.r.alloc o, h.g.trans (World.grownBy_alloc _ _ _)⟩
theorem Ks.to (h : Ks w g b off n c zs S w') (hr : RsSt w'' g b off n c zs T) (hg : w'.grownBy w'' (some g)) : Ks w g b off n c zs T w'' := ⟨hr, h.g.trans hg⟩
theorem Ks.start (h : RsSt w g b off n c zs S) : Ks w g b off n c zs S w := ⟨h, World.grownBy.refl w _⟩
theorem Ks.drewN (h : Ks w g b off n c zs S w') (m : Nat) : Ks w g b off n c zs S (w'.drewN m) := ⟨h.r.drewN m, grown_draws h.g m⟩
/-- The reader fails: its flag is put down. -/
theorem Ks.fail {k : Nat} {ok : Bool} (h : Ks w g b off n c zs S w') (hr : RsAt w' g b off n c zs k ok) (hk : k ≤ n) (x : Int) : Ks w g b off n c zs (.no x) (w'.setCell ⟨g, 2, none⟩ (.bool false)) :=
  ⟨⟨k, false, hr.set_ok false, hk, rfl⟩, grown_set h.g 2 _⟩
end
abbrev sIns : List Value := [.int .i64 0, .int .i64 0, .int .i64 0, .int .i64 0, .int .u64 0]
/-- What a call that reads an instruction leaves. -/
def SIPost (g b off n c : Nat) (zs : List Int) (S : Rd Unit) (w : World) (e : Ending) (w' : World) : Prop :=
  ∃ o x y z m : Int, e = .returned (iv o x y z m) ∧ RsSt w' g b off n c zs (S.to minsQ).st ∧ w.grownBy w' (some g) ∧ (0 ≤ m ∧ m ≤ 18446744073709551615) ∧ ∀ s r, S.to minsQ = .ok s r → (⟨o, x, y, z, m⟩ : Ins) = s
theorem snext_byte {w : World} {g b off n c k : Nat} {zs t : List Int} {z : Int} {ok : Bool} (hz : Src n c zs) (h : RsAt w g b off n c zs k ok) (hs : zs.drop k = z :: t) :
    k < n ∧ w.cell? ⟨b, off + k, none⟩ = some (.int .u8 z) ∧ 0 ≤ z ∧ z ≤ 255 ∧ zs.drop (k + 1) = t := by
  have hl := congrArg List.length hs
  rw [List.length_drop, hz.len, List.length_cons] at hl
  have hk : k < n := by omega
  have hzk : zs[k]? = some z := by
    have h0 := congrArg (fun l => l[0]?) hs
    simp only [List.getElem?_drop, List.getElem?_cons_zero, Nat.add_zero] at h0
    exact h0
  have hb := hz.byt z (List.mem_of_getElem? hzk)
  refine ⟨hk, ?_, hb.1, hb.2, ?_⟩
  · obtain ⟨b', off', e, _, hc⟩ := h.see k (.int .u8 z) (by simp [cellsU8, List.getElem?_map, hzk])
    injection e with e
    injection e with e1 e2
    subst e1 e2
    exact hc
  · have := congrArg List.tail hs
    rw [List.tail_cons, List.tail_drop] at this
    exact this
/-- A number read, its value and the state behind it under letters. -/
theorem snum_at {g b off n c : Nat} {zs : List Int} {S T : Rd Unit} {v : Nat} {w : World} (hz : Hid (Src n c zs)) (h : Hid (RsSt w g b off n c zs S)) (hT : Hid (T = stN true l31 S)) (hv : Hid (v = vlN true l31 S)) :
    Calls Tryz.prog 48 #[.pointer (some ⟨g, 0, none⟩), .int .i64 2147483647] w (SPost g b off n c zs T (.int .i64 (v : Int)) w) := by
  rw [hT.out, hv.out]
  exact snum_any g b off n c 2147483647 zs S w hz h (by omega)
theorem sword_at {g b off n c : Nat} {zs : List Int} {S T : Rd Unit} {v : Nat} {w : World} (hz : Hid (Src n c zs)) (h : Hid (RsSt w g b off n c zs S)) (hT : Hid (T = stN true wordR S)) (hv : Hid (v = vlN true wordR S)) :
    Calls Tryz.prog 79 #[.pointer (some ⟨g, 0, none⟩)] w (SPost g b off n c zs T (.int .u64 (v : Int)) w) := by
  rw [hT.out, hv.out]
  exact sword_any g b off n c zs S w hz h
/-- The operands that the reference reads, for any operation. -/
theorem rq10_any (o : Int) (w : World) (h0 : 0 ≤ o) (h1 : o < 25) : Calls Tryz.prog 39 #[.int .i64 o] w fun e w' => e = .returned (.tuple #[.bool (qA o), .bool (qB o), .bool (qC o), .bool (qI o)]) ∧ w = w' := by
  have cm := rmem10_any o
  have cu := ropd_any o
  cases hm : memB o with
  | true =>
    obtain ⟨e1, e2, e3, e4⟩ : qA o = true ∧ qB o = true ∧ qC o = true ∧ qI o = false := by simp [qA, qB, qC, qI, hm]
    rw [hm] at cm
    rw [e1, e2, e3, e4]
    clear e1 e2 e3 e4 hm
    go_enter Tryz.func39, Tryz.ntmps39
    go_wp2_with fail
    refine (cm _).mono ?_
    rintro e w' ⟨rfl, rfl⟩
    go_wp2_with fail
    refine bodyPost_ret (v := .tuple #[.bool true, .bool true, .bool true, .bool false]) (by simp [results, Tryz.results39, go_sem]; first | done | decide) rfl ⟨rfl, rfl⟩
  | false =>
    obtain ⟨e1, e2, e3, e4⟩ : qA o = useA o ∧ qB o = useB o ∧ qC o = useC o ∧ qI o = useI o := by simp [qA, qB, qC, qI, hm]
    rw [hm] at cm
    rw [e1, e2, e3, e4]
    have CU := hide (fun w => cu w h0 h1)
    generalize useA o = ua at CU ⊢
    generalize useB o = ub at CU ⊢
    generalize useC o = uc at CU ⊢
    generalize useI o = ui at CU ⊢
    clear e1 e2 e3 e4 hm cu
    go_enter Tryz.func39, Tryz.ntmps39
    go_wp2_with fail
    refine (cm _).mono ?_
    rintro e w' ⟨rfl, rfl⟩
    go_wp2_with fail
    refine (CU.out _).mono ?_
    rintro e w' ⟨rfl, rfl⟩
    go_wp2_with fail
    refine bodyPost_ret (v := .tuple #[.bool ua, .bool ub, .bool uc, .bool ui]) (by simp [results, Tryz.results39, go_sem]; first | done | decide) rfl ⟨rfl, rfl⟩
set_option maxRecDepth 100000 in
set_option maxHeartbeats 1600000 in
theorem sinstr_no (g b off n c : Nat) (zs : List Int) (x : Int) (w : World) (h : Hid (RsSt w g b off n c zs (.no x))) :
    Calls Tryz.prog 49 #[.pointer (some ⟨g, 0, none⟩)] w (SIPost g b off n c zs (.no x) w) := by
  have hg := h.out.lt
  have hne : w.heap.size ≠ g := by omega
  obtain ⟨W, hW⟩ : ∃ W, w.alloc (.cells #[.int .i64 0, .int .i64 0, .int .i64 0, .int .i64 0, .int .u64 0] 64) = W := ⟨_, rfl⟩
  have HW := hide hW
  have K0 := hide (show Ks w g b off n c zs (.no x) W by rw [← hW]; exact (Ks.start h.out).alloc _)
  have hrow := hide (show Row W w.heap.size 64 sIns by rw [← hW]; exact Row.new w _ _)
  have hWs : W.heap.size = w.heap.size + 1 := by rw [← hW]; simp
  clear hW
  obtain ⟨k, e, r, hke, rfl⟩ := K0.out.r
  have c2 := r.row.cell (k := 2) rfl
  have q2 := r.row.free 2
  have K1 := hide (fun q : Nat => (K0.out.drewN q).fail (k := k) (ok := false) ⟨r.row.drewN q, r.see.draws q⟩ hke x)
  have R1 := hide (fun q : Nat => (hrow.out.drewN q).far (p := ⟨g, 2, none⟩) (by simpa using hne) (.bool false))
  clear r K0
  go_enter Tryz.func49, Tryz.ntmps49
  go_wp2_with fail
  rw [HW.out]
  go_quiet (fail)
  have x0 := (R1.out nq).cell (k := 0) rfl
  have y0 := (R1.out nq).free 0
  have x1 := (R1.out nq).cell (k := 1) rfl
  have y1 := (R1.out nq).free 1
  have x2 := (R1.out nq).cell (k := 2) rfl
  have y2 := (R1.out nq).free 2
  have x3 := (R1.out nq).cell (k := 3) rfl
  have y3 := (R1.out nq).free 3
  have x4 := (R1.out nq).cell (k := 4) rfl
  have y4 := (R1.out nq).free 4
  go_wp2
  have hf := fun q : Nat => (((((R1.out q).set_ 0 (.int .i64 0)).set_ 1 (.int .i64 0)).set_ 2 (.int .i64 0)).set_ 3 (.int .i64 0)).set_ 4 (.int .u64 0)
  have KF := fun q : Nat => (((((K1.out q).set (Nat.le_refl w.heap.size) hg 0 (.int .i64 0)).set (Nat.le_refl w.heap.size) hg 1 (.int .i64 0)).set (Nat.le_refl w.heap.size) hg 2 (.int .i64 0)).set (Nat.le_refl w.heap.size) hg 3 (.int .i64 0)).set (Nat.le_refl w.heap.size) hg 4 (.int .u64 0)
  have f0 := fun q : Nat => (hf q).cell (k := 0) rfl
  have f1 := fun q : Nat => (hf q).cell (k := 1) rfl
  have f2 := fun q : Nat => (hf q).cell (k := 2) rfl
  have f3 := fun q : Nat => (hf q).cell (k := 3) rfl
  have f4 := fun q : Nat => (hf q).cell (k := 4) rfl
  refine bodyPost_ret (v := iv 0 0 0 0 0) (by simp [results, Tryz.results49, go_sem, f0, f1, f2, f3, f4]) rfl ⟨0, 0, 0, 0, 0, rfl, (KF _).r, (KF _).g, ⟨by decide, by decide⟩, ?_⟩
  exact fun s r e => by cases e

set_option maxRecDepth 100000 in
set_option maxHeartbeats 1600000 in
theorem sinstr_end (g b off n c : Nat) (zs : List Int) (w : World) (hz : Hid (Src n c zs)) (h : Hid (RsSt w g b off n c zs (.ok () []))) :
    Calls Tryz.prog 49 #[.pointer (some ⟨g, 0, none⟩)] w (SIPost g b off n c zs (.ok () []) w) := by
  have hg := h.out.lt
  have hne : w.heap.size ≠ g := by omega
  obtain ⟨W, hW⟩ : ∃ W, w.alloc (.cells #[.int .i64 0, .int .i64 0, .int .i64 0, .int .i64 0, .int .u64 0] 64) = W := ⟨_, rfl⟩
  have HW := hide hW
  have K0 := hide (show Ks w g b off n c zs (.ok () []) W by rw [← hW]; exact (Ks.start h.out).alloc _)
  have hrow := hide (show Row W w.heap.size 64 sIns by rw [← hW]; exact Row.new w _ _)
  have hWs : W.heap.size = w.heap.size + 1 := by rw [← hW]; simp
  clear hW
  obtain ⟨k, e, r, hke, rfl, hs⟩ := K0.out.r
  have hk : n ≤ k := by
    have := congrArg List.length hs
    rw [List.length_drop, List.length_nil, hz.out.len] at this
    omega
  have hkz : (n : Int) ≤ (k : Int) := by omega
  clear hk hs
  have c0 := r.row.cell (k := 0) rfl
  have c1 := r.row.cell (k := 1) rfl
  have c2 := r.row.cell (k := 2) rfl
  have q2 := r.row.free 2
  have K1 := hide (fun q : Nat => (K0.out.drewN q).fail (k := k) (ok := true) ⟨r.row.drewN q, r.see.draws q⟩ hke 2)
  have R1 := hide (fun q : Nat => (hrow.out.drewN q).far (p := ⟨g, 2, none⟩) (by simpa using hne) (.bool false))
  clear r K0
  go_enter Tryz.func49, Tryz.ntmps49
  go_wp2_with fail
  rw [HW.out]
  go_quiet (fail)
  have x0 := (R1.out nq).cell (k := 0) rfl
  have y0 := (R1.out nq).free 0
  have x1 := (R1.out nq).cell (k := 1) rfl
  have y1 := (R1.out nq).free 1
  have x2 := (R1.out nq).cell (k := 2) rfl
  have y2 := (R1.out nq).free 2
  have x3 := (R1.out nq).cell (k := 3) rfl
  have y3 := (R1.out nq).free 3
  have x4 := (R1.out nq).cell (k := 4) rfl
  have y4 := (R1.out nq).free 4
  go_wp2
  have hf := fun q : Nat => (((((R1.out q).set_ 0 (.int .i64 0)).set_ 1 (.int .i64 0)).set_ 2 (.int .i64 0)).set_ 3 (.int .i64 0)).set_ 4 (.int .u64 0)
  have KF := fun q : Nat => (((((K1.out q).set (Nat.le_refl w.heap.size) hg 0 (.int .i64 0)).set (Nat.le_refl w.heap.size) hg 1 (.int .i64 0)).set (Nat.le_refl w.heap.size) hg 2 (.int .i64 0)).set (Nat.le_refl w.heap.size) hg 3 (.int .i64 0)).set (Nat.le_refl w.heap.size) hg 4 (.int .u64 0)
  have f0 := fun q : Nat => (hf q).cell (k := 0) rfl
  have f1 := fun q : Nat => (hf q).cell (k := 1) rfl
  have f2 := fun q : Nat => (hf q).cell (k := 2) rfl
  have f3 := fun q : Nat => (hf q).cell (k := 3) rfl
  have f4 := fun q : Nat => (hf q).cell (k := 4) rfl
  refine bodyPost_ret (v := iv 0 0 0 0 0) (by simp [results, Tryz.results49, go_sem, f0, f1, f2, f3, f4]) rfl ⟨0, 0, 0, 0, 0, rfl, (KF _).r, (KF _).g, ⟨by decide, by decide⟩, ?_⟩
  exact fun s r e => by cases e

set_option maxRecDepth 100000 in
set_option maxHeartbeats 1600000 in
theorem sinstr_far (g b off n c : Nat) (zs : List Int) (t : List Int) (z : Int) (w : World) (hz : Hid (Src n c zs)) (h : Hid (RsSt w g b off n c zs (.ok () (z :: t)))) (h25 : 25 ≤ z) :
    Calls Tryz.prog 49 #[.pointer (some ⟨g, 0, none⟩)] w (SIPost g b off n c zs (.ok () (z :: t)) w) := by
  have hg := h.out.lt
  have hne : w.heap.size ≠ g := by omega
  obtain ⟨W, hW⟩ : ∃ W, w.alloc (.cells #[.int .i64 0, .int .i64 0, .int .i64 0, .int .i64 0, .int .u64 0] 64) = W := ⟨_, rfl⟩
  have HW := hide hW
  have K0 := hide (show Ks w g b off n c zs (.ok () (z :: t)) W by rw [← hW]; exact (Ks.start h.out).alloc _)
  have hrow := hide (show Row W w.heap.size 64 sIns by rw [← hW]; exact Row.new w _ _)
  have hWs : W.heap.size = w.heap.size + 1 := by rw [← hW]; simp
  clear hW
  obtain ⟨k, e, r, hke, rfl, hs⟩ := K0.out.r
  obtain ⟨hk, cz, z0, z255, hs2⟩ := snext_byte hz.out r hs
  have c0 := r.row.cell (k := 0) rfl
  have c1 := r.row.cell (k := 1) rfl
  have c2 := r.row.cell (k := 2) rfl
  have q1 := r.row.free 1
  have q2 := r.row.free 2
  have hkn : (k : Int) < (n : Int) := by omega
  have hmost := hz.out.most
  have E := hide (show ((Rd.ok () (z :: t) : Rd Unit).to minsQ) = .no 2 from minsQ_far h25)
  have K1 := hide (fun q : Nat => (K0.out.drewN q).fail (k := k) (ok := true) ⟨r.row.drewN q, r.see.draws q⟩ hke 2)
  have R1 := hide (fun q : Nat => (hrow.out.drewN q).far (p := ⟨g, 2, none⟩) (by simpa using hne) (.bool false))
  clear r hs hs2 K0
  go_enter Tryz.func49, Tryz.ntmps49
  go_wp2_with fail
  rw [HW.out]
  go_quiet (fail)
  have x0 := (R1.out nq).cell (k := 0) rfl
  have y0 := (R1.out nq).free 0
  have x1 := (R1.out nq).cell (k := 1) rfl
  have y1 := (R1.out nq).free 1
  have x2 := (R1.out nq).cell (k := 2) rfl
  have y2 := (R1.out nq).free 2
  have x3 := (R1.out nq).cell (k := 3) rfl
  have y3 := (R1.out nq).free 3
  have x4 := (R1.out nq).cell (k := 4) rfl
  have y4 := (R1.out nq).free 4
  go_wp2
  have hf := fun q : Nat => (((((R1.out q).set_ 0 (.int .i64 0)).set_ 1 (.int .i64 0)).set_ 2 (.int .i64 0)).set_ 3 (.int .i64 0)).set_ 4 (.int .u64 0)
  have KF := fun q : Nat => (((((K1.out q).set (Nat.le_refl w.heap.size) hg 0 (.int .i64 0)).set (Nat.le_refl w.heap.size) hg 1 (.int .i64 0)).set (Nat.le_refl w.heap.size) hg 2 (.int .i64 0)).set (Nat.le_refl w.heap.size) hg 3 (.int .i64 0)).set (Nat.le_refl w.heap.size) hg 4 (.int .u64 0)
  have f0 := fun q : Nat => (hf q).cell (k := 0) rfl
  have f1 := fun q : Nat => (hf q).cell (k := 1) rfl
  have f2 := fun q : Nat => (hf q).cell (k := 2) rfl
  have f3 := fun q : Nat => (hf q).cell (k := 3) rfl
  have f4 := fun q : Nat => (hf q).cell (k := 4) rfl
  refine bodyPost_ret (v := iv 0 0 0 0 0) (by simp [results, Tryz.results49, go_sem, f0, f1, f2, f3, f4]) rfl ⟨0, 0, 0, 0, 0, rfl, (by rw [E.out]; exact (KF _).r), (KF _).g, ⟨by decide, by decide⟩, ?_⟩
  rw [E.out]
  exact fun s r e => by cases e

set_option maxRecDepth 100000 in
set_option maxHeartbeats 1600000 in
theorem sinstr_aaa (g b off n c : Nat) (zs : List Int) (t : List Int) (z : Int) (w : World) (hz : Hid (Src n c zs)) (h : Hid (RsSt w g b off n c zs (.ok () (z :: t)))) (h25 : z < 25) (ha : Hid (qA z = true)) (hb : Hid (qB z = true)) (hc : Hid (qC z = true)) (hi : Hid (qI z = false)) :
    Calls Tryz.prog 49 #[.pointer (some ⟨g, 0, none⟩)] w (SIPost g b off n c zs (.ok () (z :: t)) w) := by
  have hg := h.out.lt
  have hne : w.heap.size ≠ g := by omega
  obtain ⟨W, hW⟩ : ∃ W, w.alloc (.cells #[.int .i64 0, .int .i64 0, .int .i64 0, .int .i64 0, .int .u64 0] 64) = W := ⟨_, rfl⟩
  have HW := hide hW
  have K0 := hide (show Ks w g b off n c zs (.ok () (z :: t)) W by rw [← hW]; exact (Ks.start h.out).alloc _)
  have hrow := hide (show Row W w.heap.size 64 sIns by rw [← hW]; exact Row.new w _ _)
  have hWs : W.heap.size = w.heap.size + 1 := by rw [← hW]; simp
  clear hW
  obtain ⟨k, e, r, hke, rfl, hs⟩ := K0.out.r
  obtain ⟨hk, cz, z0, z255, hs2⟩ := snext_byte hz.out r hs
  have c0 := r.row.cell (k := 0) rfl
  have c1 := r.row.cell (k := 1) rfl
  have c2 := r.row.cell (k := 2) rfl
  have q1 := r.row.free 1
  have q2 := r.row.free 2
  have hkn : (k : Int) < (n : Int) := by omega
  have hmost := hz.out.most
  have hbl := World.block_lt_of_cell? _ _ cz
  have gl : g < W.heap.size := by omega
  have cz' : ∀ (q : Nat) (o : Obj), ((W.drewN q).alloc o).cell? ⟨b, off + k, none⟩ = some (.int .u8 z) := fun q o => (World.cell?_alloc_lt (W.drewN q) o _ hbl).trans cz
  have c0' : ∀ (q : Nat) (o : Obj), ((W.drewN q).alloc o).cell? ⟨g, 0, none⟩ = some (.slice (some ⟨b, off, none⟩) n c) := fun q o => (World.cell?_alloc_lt (W.drewN q) o _ gl).trans c0
  have c1' : ∀ (q : Nat) (o : Obj), ((W.drewN q).alloc o).cell? ⟨g, 1, none⟩ = some (.int .i64 (k : Int)) := fun q o => (World.cell?_alloc_lt (W.drewN q) o _ gl).trans c1
  have q1' : ∀ (q : Nat) (o : Obj), ((W.drewN q).alloc o).frozen? ⟨g, 1, none⟩ = false := fun q o => ((r.row.drewN q).alloc o).free 1
  have KA := hide (fun q : Nat => (show Ks w g b off n c zs (.ok () t) (((W.drewN q).setCell ⟨g, 1, none⟩ (.int .i64 ((k : Int) + 1))).alloc (.cells #[.int .i64 z, .int .i64 0, .int .i64 0, .int .i64 0, .int .u64 0] 64)) from by
    have h1 := K0.out.drewN q
    have r2 := RsAt.set_at (w := W.drewN q) (ok := true) (k := k) ⟨r.row.drewN q, r.see.draws q⟩ (k + 1)
    rw [show (((k + 1 : Nat)) : Int) = (k : Int) + 1 by omega] at r2
    have h2 : Ks w g b off n c zs (.ok () t) ((W.drewN q).setCell ⟨g, 1, none⟩ (.int .i64 ((k : Int) + 1))) := ⟨⟨k + 1, true, r2, by omega, rfl, hs2⟩, grown_set h1.g 1 _⟩
    exact h2.alloc _))
  have RA := hide (fun q : Nat => (show Row (((W.drewN q).setCell ⟨g, 1, none⟩ (.int .i64 ((k : Int) + 1))).alloc (.cells #[.int .i64 z, .int .i64 0, .int .i64 0, .int .i64 0, .int .u64 0] 64)) (w.heap.size + 1) 64 [.int .i64 z, .int .i64 0, .int .i64 0, .int .i64 0, .int .u64 0] from
    (Row.new ((W.drewN q).setCell ⟨g, 1, none⟩ (.int .i64 ((k : Int) + 1))) 64 [.int .i64 z, .int .i64 0, .int .i64 0, .int .i64 0, .int .u64 0]).at_ (by simp [World.setCell]; exact hWs)))
  have RB := hide (fun q : Nat => (show Row (((W.drewN q).setCell ⟨g, 1, none⟩ (.int .i64 ((k : Int) + 1))).alloc (.cells #[.int .i64 z, .int .i64 0, .int .i64 0, .int .i64 0, .int .u64 0] 64)) w.heap.size 64 sIns from
    ((hrow.out.drewN q).far (by simpa using hne) _).alloc _))
  have E := hide (show ((Rd.ok () (z :: t) : Rd Unit).to minsQ) = opsJ (qA z) (qB z) (qC z) (qI z) z t from minsQ_near h25)
  rw [ha.out, hb.out, hc.out, hi.out] at E
  obtain ⟨v1, hv1⟩ : ∃ v, Hid (v = vlN true l31 (.ok () t)) := ⟨_, hide rfl⟩
  obtain ⟨S1, hS1⟩ : ∃ T, Hid (T = stN true l31 (.ok () t)) := ⟨_, hide rfl⟩
  obtain ⟨v2, hv2⟩ : ∃ v, Hid (v = vlN true l31 S1) := ⟨_, hide rfl⟩
  obtain ⟨S2, hS2⟩ : ∃ T, Hid (T = stN true l31 S1) := ⟨_, hide rfl⟩
  obtain ⟨v3, hv3⟩ : ∃ v, Hid (v = vlN true l31 S2) := ⟨_, hide rfl⟩
  obtain ⟨S3, hS3⟩ : ∃ T, Hid (T = stN true l31 S2) := ⟨_, hide rfl⟩
  have ES := hide (show ((Rd.ok () (z :: t) : Rd Unit).to minsQ).st = S3 by
    rw [E.out, opsJ_st, hS3.out, hS2.out, hS1.out]
    rfl)
  have EV := hide (show ∀ (s : Ins) (r : List Int), (Rd.ok () (z :: t) : Rd Unit).to minsQ = .ok s r → (⟨z, (v1 : Int), (v2 : Int), (v3 : Int), 0⟩ : Ins) = s by
    intro s r e
    rw [E.out] at e
    rw [opsJ_val e, hv3.out, hv2.out, hv1.out, hS2.out, hS1.out]
    rfl)
  clear r hs hs2 K0 hrow E
  go_enter Tryz.func49, Tryz.ntmps49
  go_wp2_with fail
  rw [HW.out]
  go_quiet (fail)
  go_wp2_with fail
  go_region
  go_wp2_with fail
  refine (rq10_any z _ z0 h25).mono ?_
  rintro e w9 ⟨rfl, hw9⟩
  have K9 := hide (show Ks w g b off n c zs (.ok () t) w9 by rw [← hw9]; exact KA.out _)
  have RA9 := hide (show Row w9 (w.heap.size + 1) 64 [.int .i64 z, .int .i64 0, .int .i64 0, .int .i64 0, .int .u64 0] by rw [← hw9]; exact RA.out _)
  have RB9 := hide (show Row w9 w.heap.size 64 sIns by rw [← hw9]; exact RB.out _)
  clear hw9 KA RA RB
  rw [ha.out, hb.out, hc.out, hi.out]
  clear c0 c1 c2 q1 q2 cz cz' c0' c1' q1'
  go_wp2_with fail
  refine (snum_at hz (hide K9.out.r) hS1 hv1).mono ?_
  rintro e w1 ⟨rfl, hR, hG⟩
  have k1 := hide (K9.out.to hR hG)
  have ra1 := hide (RA9.out.grown hG (fun e => by injection e with e; omega))
  have rb1 := hide (RB9.out.grown hG (fun e => by injection e with e; omega))
  clear hR hG K9 RA9 RB9
  have p1 := ra1.out.cell (k := 1) rfl
  have q1 := ra1.out.free 1
  have K1 := hide (k1.out.set (gb := w.heap.size + 1) (by omega) hg 1 (.int .i64 (v1 : Int)))
  have RA1 := hide (ra1.out.set_ 1 (.int .i64 (v1 : Int)))
  have RB1 := hide (rb1.out.far (p := ⟨w.heap.size + 1, 1, none⟩) (by simp) (.int .i64 (v1 : Int)))
  clear k1 ra1 rb1
  go_wp2_with fail
  refine (snum_at hz (hide K1.out.r) hS2 hv2).mono ?_
  rintro e w2 ⟨rfl, hR, hG⟩
  have k2 := hide (K1.out.to hR hG)
  have ra2 := hide (RA1.out.grown hG (fun e => by injection e with e; omega))
  have rb2 := hide (RB1.out.grown hG (fun e => by injection e with e; omega))
  clear hR hG K1 RA1 RB1
  have p2 := ra2.out.cell (k := 2) rfl
  have q2 := ra2.out.free 2
  have K2 := hide (k2.out.set (gb := w.heap.size + 1) (by omega) hg 2 (.int .i64 (v2 : Int)))
  have RA2 := hide (ra2.out.set_ 2 (.int .i64 (v2 : Int)))
  have RB2 := hide (rb2.out.far (p := ⟨w.heap.size + 1, 2, none⟩) (by simp) (.int .i64 (v2 : Int)))
  clear k2 ra2 rb2
  go_wp2_with fail
  refine (snum_at hz (hide K2.out.r) hS3 hv3).mono ?_
  rintro e w3 ⟨rfl, hR, hG⟩
  have k3 := hide (K2.out.to hR hG)
  have ra3 := hide (RA2.out.grown hG (fun e => by injection e with e; omega))
  have rb3 := hide (RB2.out.grown hG (fun e => by injection e with e; omega))
  clear hR hG K2 RA2 RB2
  have p3 := ra3.out.cell (k := 3) rfl
  have q3 := ra3.out.free 3
  have K3 := hide (k3.out.set (gb := w.heap.size + 1) (by omega) hg 3 (.int .i64 (v3 : Int)))
  have RA3 := hide (ra3.out.set_ 3 (.int .i64 (v3 : Int)))
  have RB3 := hide (rb3.out.far (p := ⟨w.heap.size + 1, 3, none⟩) (by simp) (.int .i64 (v3 : Int)))
  clear k3 ra3 rb3
  have xa0 := RA3.out.cell (k := 0) rfl
  have xa1 := RA3.out.cell (k := 1) rfl
  have xa2 := RA3.out.cell (k := 2) rfl
  have xa3 := RA3.out.cell (k := 3) rfl
  have xa4 := RA3.out.cell (k := 4) rfl
  have x0 := RB3.out.cell (k := 0) rfl
  have y0 := RB3.out.free 0
  have x1 := RB3.out.cell (k := 1) rfl
  have y1 := RB3.out.free 1
  have x2 := RB3.out.cell (k := 2) rfl
  have y2 := RB3.out.free 2
  have x3 := RB3.out.cell (k := 3) rfl
  have y3 := RB3.out.free 3
  have x4 := RB3.out.cell (k := 4) rfl
  have y4 := RB3.out.free 4
  go_wp2
  have hf := (((((RB3.out).set_ 0 (.int .i64 z)).set_ 1 (.int .i64 (v1 : Int))).set_ 2 (.int .i64 (v2 : Int))).set_ 3 (.int .i64 (v3 : Int))).set_ 4 (.int .u64 0)
  have KF := (((((K3.out).set (Nat.le_refl w.heap.size) hg 0 (.int .i64 z)).set (Nat.le_refl w.heap.size) hg 1 (.int .i64 (v1 : Int))).set (Nat.le_refl w.heap.size) hg 2 (.int .i64 (v2 : Int))).set (Nat.le_refl w.heap.size) hg 3 (.int .i64 (v3 : Int))).set (Nat.le_refl w.heap.size) hg 4 (.int .u64 0)
  have f0 := hf.cell (k := 0) rfl
  have f1 := hf.cell (k := 1) rfl
  have f2 := hf.cell (k := 2) rfl
  have f3 := hf.cell (k := 3) rfl
  have f4 := hf.cell (k := 4) rfl
  refine bodyPost_ret (v := iv z (v1 : Int) (v2 : Int) (v3 : Int) 0) (by simp [results, Tryz.results49, go_sem, f0, f1, f2, f3, f4]) rfl ⟨z, (v1 : Int), (v2 : Int), (v3 : Int), 0, rfl, (by rw [ES.out]; exact KF.r), KF.g, ⟨by decide, by decide⟩, ?_⟩
  exact EV.out

set_option maxRecDepth 100000 in
set_option maxHeartbeats 1600000 in
theorem sinstr_aa (g b off n c : Nat) (zs : List Int) (t : List Int) (z : Int) (w : World) (hz : Hid (Src n c zs)) (h : Hid (RsSt w g b off n c zs (.ok () (z :: t)))) (h25 : z < 25) (ha : Hid (qA z = true)) (hb : Hid (qB z = true)) (hc : Hid (qC z = false)) (hi : Hid (qI z = false)) :
    Calls Tryz.prog 49 #[.pointer (some ⟨g, 0, none⟩)] w (SIPost g b off n c zs (.ok () (z :: t)) w) := by
  have hg := h.out.lt
  have hne : w.heap.size ≠ g := by omega
  obtain ⟨W, hW⟩ : ∃ W, w.alloc (.cells #[.int .i64 0, .int .i64 0, .int .i64 0, .int .i64 0, .int .u64 0] 64) = W := ⟨_, rfl⟩
  have HW := hide hW
  have K0 := hide (show Ks w g b off n c zs (.ok () (z :: t)) W by rw [← hW]; exact (Ks.start h.out).alloc _)
  have hrow := hide (show Row W w.heap.size 64 sIns by rw [← hW]; exact Row.new w _ _)
  have hWs : W.heap.size = w.heap.size + 1 := by rw [← hW]; simp
  clear hW
  obtain ⟨k, e, r, hke, rfl, hs⟩ := K0.out.r
  obtain ⟨hk, cz, z0, z255, hs2⟩ := snext_byte hz.out r hs
  have c0 := r.row.cell (k := 0) rfl
  have c1 := r.row.cell (k := 1) rfl
  have c2 := r.row.cell (k := 2) rfl
  have q1 := r.row.free 1
  have q2 := r.row.free 2
  have hkn : (k : Int) < (n : Int) := by omega
  have hmost := hz.out.most
  have hbl := World.block_lt_of_cell? _ _ cz
  have gl : g < W.heap.size := by omega
  have cz' : ∀ (q : Nat) (o : Obj), ((W.drewN q).alloc o).cell? ⟨b, off + k, none⟩ = some (.int .u8 z) := fun q o => (World.cell?_alloc_lt (W.drewN q) o _ hbl).trans cz
  have c0' : ∀ (q : Nat) (o : Obj), ((W.drewN q).alloc o).cell? ⟨g, 0, none⟩ = some (.slice (some ⟨b, off, none⟩) n c) := fun q o => (World.cell?_alloc_lt (W.drewN q) o _ gl).trans c0
  have c1' : ∀ (q : Nat) (o : Obj), ((W.drewN q).alloc o).cell? ⟨g, 1, none⟩ = some (.int .i64 (k : Int)) := fun q o => (World.cell?_alloc_lt (W.drewN q) o _ gl).trans c1
  have q1' : ∀ (q : Nat) (o : Obj), ((W.drewN q).alloc o).frozen? ⟨g, 1, none⟩ = false := fun q o => ((r.row.drewN q).alloc o).free 1
  have KA := hide (fun q : Nat => (show Ks w g b off n c zs (.ok () t) (((W.drewN q).setCell ⟨g, 1, none⟩ (.int .i64 ((k : Int) + 1))).alloc (.cells #[.int .i64 z, .int .i64 0, .int .i64 0, .int .i64 0, .int .u64 0] 64)) from by
    have h1 := K0.out.drewN q
    have r2 := RsAt.set_at (w := W.drewN q) (ok := true) (k := k) ⟨r.row.drewN q, r.see.draws q⟩ (k + 1)
    rw [show (((k + 1 : Nat)) : Int) = (k : Int) + 1 by omega] at r2
    have h2 : Ks w g b off n c zs (.ok () t) ((W.drewN q).setCell ⟨g, 1, none⟩ (.int .i64 ((k : Int) + 1))) := ⟨⟨k + 1, true, r2, by omega, rfl, hs2⟩, grown_set h1.g 1 _⟩
    exact h2.alloc _))
  have RA := hide (fun q : Nat => (show Row (((W.drewN q).setCell ⟨g, 1, none⟩ (.int .i64 ((k : Int) + 1))).alloc (.cells #[.int .i64 z, .int .i64 0, .int .i64 0, .int .i64 0, .int .u64 0] 64)) (w.heap.size + 1) 64 [.int .i64 z, .int .i64 0, .int .i64 0, .int .i64 0, .int .u64 0] from
    (Row.new ((W.drewN q).setCell ⟨g, 1, none⟩ (.int .i64 ((k : Int) + 1))) 64 [.int .i64 z, .int .i64 0, .int .i64 0, .int .i64 0, .int .u64 0]).at_ (by simp [World.setCell]; exact hWs)))
  have RB := hide (fun q : Nat => (show Row (((W.drewN q).setCell ⟨g, 1, none⟩ (.int .i64 ((k : Int) + 1))).alloc (.cells #[.int .i64 z, .int .i64 0, .int .i64 0, .int .i64 0, .int .u64 0] 64)) w.heap.size 64 sIns from
    ((hrow.out.drewN q).far (by simpa using hne) _).alloc _))
  have E := hide (show ((Rd.ok () (z :: t) : Rd Unit).to minsQ) = opsJ (qA z) (qB z) (qC z) (qI z) z t from minsQ_near h25)
  rw [ha.out, hb.out, hc.out, hi.out] at E
  obtain ⟨v1, hv1⟩ : ∃ v, Hid (v = vlN true l31 (.ok () t)) := ⟨_, hide rfl⟩
  obtain ⟨S1, hS1⟩ : ∃ T, Hid (T = stN true l31 (.ok () t)) := ⟨_, hide rfl⟩
  obtain ⟨v2, hv2⟩ : ∃ v, Hid (v = vlN true l31 S1) := ⟨_, hide rfl⟩
  obtain ⟨S2, hS2⟩ : ∃ T, Hid (T = stN true l31 S1) := ⟨_, hide rfl⟩
  have ES := hide (show ((Rd.ok () (z :: t) : Rd Unit).to minsQ).st = S2 by
    rw [E.out, opsJ_st, hS2.out, hS1.out]
    rfl)
  have EV := hide (show ∀ (s : Ins) (r : List Int), (Rd.ok () (z :: t) : Rd Unit).to minsQ = .ok s r → (⟨z, (v1 : Int), (v2 : Int), 0, 0⟩ : Ins) = s by
    intro s r e
    rw [E.out] at e
    rw [opsJ_val e, hv2.out, hv1.out, hS1.out]
    rfl)
  clear r hs hs2 K0 hrow E
  go_enter Tryz.func49, Tryz.ntmps49
  go_wp2_with fail
  rw [HW.out]
  go_quiet (fail)
  go_wp2_with fail
  go_region
  go_wp2_with fail
  refine (rq10_any z _ z0 h25).mono ?_
  rintro e w9 ⟨rfl, hw9⟩
  have K9 := hide (show Ks w g b off n c zs (.ok () t) w9 by rw [← hw9]; exact KA.out _)
  have RA9 := hide (show Row w9 (w.heap.size + 1) 64 [.int .i64 z, .int .i64 0, .int .i64 0, .int .i64 0, .int .u64 0] by rw [← hw9]; exact RA.out _)
  have RB9 := hide (show Row w9 w.heap.size 64 sIns by rw [← hw9]; exact RB.out _)
  clear hw9 KA RA RB
  rw [ha.out, hb.out, hc.out, hi.out]
  clear c0 c1 c2 q1 q2 cz cz' c0' c1' q1'
  go_wp2_with fail
  refine (snum_at hz (hide K9.out.r) hS1 hv1).mono ?_
  rintro e w1 ⟨rfl, hR, hG⟩
  have k1 := hide (K9.out.to hR hG)
  have ra1 := hide (RA9.out.grown hG (fun e => by injection e with e; omega))
  have rb1 := hide (RB9.out.grown hG (fun e => by injection e with e; omega))
  clear hR hG K9 RA9 RB9
  have p1 := ra1.out.cell (k := 1) rfl
  have q1 := ra1.out.free 1
  have K1 := hide (k1.out.set (gb := w.heap.size + 1) (by omega) hg 1 (.int .i64 (v1 : Int)))
  have RA1 := hide (ra1.out.set_ 1 (.int .i64 (v1 : Int)))
  have RB1 := hide (rb1.out.far (p := ⟨w.heap.size + 1, 1, none⟩) (by simp) (.int .i64 (v1 : Int)))
  clear k1 ra1 rb1
  go_wp2_with fail
  refine (snum_at hz (hide K1.out.r) hS2 hv2).mono ?_
  rintro e w2 ⟨rfl, hR, hG⟩
  have k2 := hide (K1.out.to hR hG)
  have ra2 := hide (RA1.out.grown hG (fun e => by injection e with e; omega))
  have rb2 := hide (RB1.out.grown hG (fun e => by injection e with e; omega))
  clear hR hG K1 RA1 RB1
  have p2 := ra2.out.cell (k := 2) rfl
  have q2 := ra2.out.free 2
  have K2 := hide (k2.out.set (gb := w.heap.size + 1) (by omega) hg 2 (.int .i64 (v2 : Int)))
  have RA2 := hide (ra2.out.set_ 2 (.int .i64 (v2 : Int)))
  have RB2 := hide (rb2.out.far (p := ⟨w.heap.size + 1, 2, none⟩) (by simp) (.int .i64 (v2 : Int)))
  clear k2 ra2 rb2
  have xa0 := RA2.out.cell (k := 0) rfl
  have xa1 := RA2.out.cell (k := 1) rfl
  have xa2 := RA2.out.cell (k := 2) rfl
  have xa3 := RA2.out.cell (k := 3) rfl
  have xa4 := RA2.out.cell (k := 4) rfl
  have x0 := RB2.out.cell (k := 0) rfl
  have y0 := RB2.out.free 0
  have x1 := RB2.out.cell (k := 1) rfl
  have y1 := RB2.out.free 1
  have x2 := RB2.out.cell (k := 2) rfl
  have y2 := RB2.out.free 2
  have x3 := RB2.out.cell (k := 3) rfl
  have y3 := RB2.out.free 3
  have x4 := RB2.out.cell (k := 4) rfl
  have y4 := RB2.out.free 4
  go_wp2
  have hf := (((((RB2.out).set_ 0 (.int .i64 z)).set_ 1 (.int .i64 (v1 : Int))).set_ 2 (.int .i64 (v2 : Int))).set_ 3 (.int .i64 0)).set_ 4 (.int .u64 0)
  have KF := (((((K2.out).set (Nat.le_refl w.heap.size) hg 0 (.int .i64 z)).set (Nat.le_refl w.heap.size) hg 1 (.int .i64 (v1 : Int))).set (Nat.le_refl w.heap.size) hg 2 (.int .i64 (v2 : Int))).set (Nat.le_refl w.heap.size) hg 3 (.int .i64 0)).set (Nat.le_refl w.heap.size) hg 4 (.int .u64 0)
  have f0 := hf.cell (k := 0) rfl
  have f1 := hf.cell (k := 1) rfl
  have f2 := hf.cell (k := 2) rfl
  have f3 := hf.cell (k := 3) rfl
  have f4 := hf.cell (k := 4) rfl
  refine bodyPost_ret (v := iv z (v1 : Int) (v2 : Int) 0 0) (by simp [results, Tryz.results49, go_sem, f0, f1, f2, f3, f4]) rfl ⟨z, (v1 : Int), (v2 : Int), 0, 0, rfl, (by rw [ES.out]; exact KF.r), KF.g, ⟨by decide, by decide⟩, ?_⟩
  exact EV.out

set_option maxRecDepth 100000 in
set_option maxHeartbeats 1600000 in
theorem sinstr_a (g b off n c : Nat) (zs : List Int) (t : List Int) (z : Int) (w : World) (hz : Hid (Src n c zs)) (h : Hid (RsSt w g b off n c zs (.ok () (z :: t)))) (h25 : z < 25) (ha : Hid (qA z = true)) (hb : Hid (qB z = false)) (hc : Hid (qC z = false)) (hi : Hid (qI z = false)) :
    Calls Tryz.prog 49 #[.pointer (some ⟨g, 0, none⟩)] w (SIPost g b off n c zs (.ok () (z :: t)) w) := by
  have hg := h.out.lt
  have hne : w.heap.size ≠ g := by omega
  obtain ⟨W, hW⟩ : ∃ W, w.alloc (.cells #[.int .i64 0, .int .i64 0, .int .i64 0, .int .i64 0, .int .u64 0] 64) = W := ⟨_, rfl⟩
  have HW := hide hW
  have K0 := hide (show Ks w g b off n c zs (.ok () (z :: t)) W by rw [← hW]; exact (Ks.start h.out).alloc _)
  have hrow := hide (show Row W w.heap.size 64 sIns by rw [← hW]; exact Row.new w _ _)
  have hWs : W.heap.size = w.heap.size + 1 := by rw [← hW]; simp
  clear hW
  obtain ⟨k, e, r, hke, rfl, hs⟩ := K0.out.r
  obtain ⟨hk, cz, z0, z255, hs2⟩ := snext_byte hz.out r hs
  have c0 := r.row.cell (k := 0) rfl
  have c1 := r.row.cell (k := 1) rfl
  have c2 := r.row.cell (k := 2) rfl
  have q1 := r.row.free 1
  have q2 := r.row.free 2
  have hkn : (k : Int) < (n : Int) := by omega
  have hmost := hz.out.most
  have hbl := World.block_lt_of_cell? _ _ cz
  have gl : g < W.heap.size := by omega
  have cz' : ∀ (q : Nat) (o : Obj), ((W.drewN q).alloc o).cell? ⟨b, off + k, none⟩ = some (.int .u8 z) := fun q o => (World.cell?_alloc_lt (W.drewN q) o _ hbl).trans cz
  have c0' : ∀ (q : Nat) (o : Obj), ((W.drewN q).alloc o).cell? ⟨g, 0, none⟩ = some (.slice (some ⟨b, off, none⟩) n c) := fun q o => (World.cell?_alloc_lt (W.drewN q) o _ gl).trans c0
  have c1' : ∀ (q : Nat) (o : Obj), ((W.drewN q).alloc o).cell? ⟨g, 1, none⟩ = some (.int .i64 (k : Int)) := fun q o => (World.cell?_alloc_lt (W.drewN q) o _ gl).trans c1
  have q1' : ∀ (q : Nat) (o : Obj), ((W.drewN q).alloc o).frozen? ⟨g, 1, none⟩ = false := fun q o => ((r.row.drewN q).alloc o).free 1
  have KA := hide (fun q : Nat => (show Ks w g b off n c zs (.ok () t) (((W.drewN q).setCell ⟨g, 1, none⟩ (.int .i64 ((k : Int) + 1))).alloc (.cells #[.int .i64 z, .int .i64 0, .int .i64 0, .int .i64 0, .int .u64 0] 64)) from by
    have h1 := K0.out.drewN q
    have r2 := RsAt.set_at (w := W.drewN q) (ok := true) (k := k) ⟨r.row.drewN q, r.see.draws q⟩ (k + 1)
    rw [show (((k + 1 : Nat)) : Int) = (k : Int) + 1 by omega] at r2
    have h2 : Ks w g b off n c zs (.ok () t) ((W.drewN q).setCell ⟨g, 1, none⟩ (.int .i64 ((k : Int) + 1))) := ⟨⟨k + 1, true, r2, by omega, rfl, hs2⟩, grown_set h1.g 1 _⟩
    exact h2.alloc _))
  have RA := hide (fun q : Nat => (show Row (((W.drewN q).setCell ⟨g, 1, none⟩ (.int .i64 ((k : Int) + 1))).alloc (.cells #[.int .i64 z, .int .i64 0, .int .i64 0, .int .i64 0, .int .u64 0] 64)) (w.heap.size + 1) 64 [.int .i64 z, .int .i64 0, .int .i64 0, .int .i64 0, .int .u64 0] from
    (Row.new ((W.drewN q).setCell ⟨g, 1, none⟩ (.int .i64 ((k : Int) + 1))) 64 [.int .i64 z, .int .i64 0, .int .i64 0, .int .i64 0, .int .u64 0]).at_ (by simp [World.setCell]; exact hWs)))
  have RB := hide (fun q : Nat => (show Row (((W.drewN q).setCell ⟨g, 1, none⟩ (.int .i64 ((k : Int) + 1))).alloc (.cells #[.int .i64 z, .int .i64 0, .int .i64 0, .int .i64 0, .int .u64 0] 64)) w.heap.size 64 sIns from
    ((hrow.out.drewN q).far (by simpa using hne) _).alloc _))
  have E := hide (show ((Rd.ok () (z :: t) : Rd Unit).to minsQ) = opsJ (qA z) (qB z) (qC z) (qI z) z t from minsQ_near h25)
  rw [ha.out, hb.out, hc.out, hi.out] at E
  obtain ⟨v1, hv1⟩ : ∃ v, Hid (v = vlN true l31 (.ok () t)) := ⟨_, hide rfl⟩
  obtain ⟨S1, hS1⟩ : ∃ T, Hid (T = stN true l31 (.ok () t)) := ⟨_, hide rfl⟩
  have ES := hide (show ((Rd.ok () (z :: t) : Rd Unit).to minsQ).st = S1 by
    rw [E.out, opsJ_st, hS1.out]
    rfl)
  have EV := hide (show ∀ (s : Ins) (r : List Int), (Rd.ok () (z :: t) : Rd Unit).to minsQ = .ok s r → (⟨z, (v1 : Int), 0, 0, 0⟩ : Ins) = s by
    intro s r e
    rw [E.out] at e
    rw [opsJ_val e, hv1.out]
    rfl)
  clear r hs hs2 K0 hrow E
  go_enter Tryz.func49, Tryz.ntmps49
  go_wp2_with fail
  rw [HW.out]
  go_quiet (fail)
  go_wp2_with fail
  go_region
  go_wp2_with fail
  refine (rq10_any z _ z0 h25).mono ?_
  rintro e w9 ⟨rfl, hw9⟩
  have K9 := hide (show Ks w g b off n c zs (.ok () t) w9 by rw [← hw9]; exact KA.out _)
  have RA9 := hide (show Row w9 (w.heap.size + 1) 64 [.int .i64 z, .int .i64 0, .int .i64 0, .int .i64 0, .int .u64 0] by rw [← hw9]; exact RA.out _)
  have RB9 := hide (show Row w9 w.heap.size 64 sIns by rw [← hw9]; exact RB.out _)
  clear hw9 KA RA RB
  rw [ha.out, hb.out, hc.out, hi.out]
  clear c0 c1 c2 q1 q2 cz cz' c0' c1' q1'
  go_wp2_with fail
  refine (snum_at hz (hide K9.out.r) hS1 hv1).mono ?_
  rintro e w1 ⟨rfl, hR, hG⟩
  have k1 := hide (K9.out.to hR hG)
  have ra1 := hide (RA9.out.grown hG (fun e => by injection e with e; omega))
  have rb1 := hide (RB9.out.grown hG (fun e => by injection e with e; omega))
  clear hR hG K9 RA9 RB9
  have p1 := ra1.out.cell (k := 1) rfl
  have q1 := ra1.out.free 1
  have K1 := hide (k1.out.set (gb := w.heap.size + 1) (by omega) hg 1 (.int .i64 (v1 : Int)))
  have RA1 := hide (ra1.out.set_ 1 (.int .i64 (v1 : Int)))
  have RB1 := hide (rb1.out.far (p := ⟨w.heap.size + 1, 1, none⟩) (by simp) (.int .i64 (v1 : Int)))
  clear k1 ra1 rb1
  have xa0 := RA1.out.cell (k := 0) rfl
  have xa1 := RA1.out.cell (k := 1) rfl
  have xa2 := RA1.out.cell (k := 2) rfl
  have xa3 := RA1.out.cell (k := 3) rfl
  have xa4 := RA1.out.cell (k := 4) rfl
  have x0 := RB1.out.cell (k := 0) rfl
  have y0 := RB1.out.free 0
  have x1 := RB1.out.cell (k := 1) rfl
  have y1 := RB1.out.free 1
  have x2 := RB1.out.cell (k := 2) rfl
  have y2 := RB1.out.free 2
  have x3 := RB1.out.cell (k := 3) rfl
  have y3 := RB1.out.free 3
  have x4 := RB1.out.cell (k := 4) rfl
  have y4 := RB1.out.free 4
  go_wp2
  have hf := (((((RB1.out).set_ 0 (.int .i64 z)).set_ 1 (.int .i64 (v1 : Int))).set_ 2 (.int .i64 0)).set_ 3 (.int .i64 0)).set_ 4 (.int .u64 0)
  have KF := (((((K1.out).set (Nat.le_refl w.heap.size) hg 0 (.int .i64 z)).set (Nat.le_refl w.heap.size) hg 1 (.int .i64 (v1 : Int))).set (Nat.le_refl w.heap.size) hg 2 (.int .i64 0)).set (Nat.le_refl w.heap.size) hg 3 (.int .i64 0)).set (Nat.le_refl w.heap.size) hg 4 (.int .u64 0)
  have f0 := hf.cell (k := 0) rfl
  have f1 := hf.cell (k := 1) rfl
  have f2 := hf.cell (k := 2) rfl
  have f3 := hf.cell (k := 3) rfl
  have f4 := hf.cell (k := 4) rfl
  refine bodyPost_ret (v := iv z (v1 : Int) 0 0 0) (by simp [results, Tryz.results49, go_sem, f0, f1, f2, f3, f4]) rfl ⟨z, (v1 : Int), 0, 0, 0, rfl, (by rw [ES.out]; exact KF.r), KF.g, ⟨by decide, by decide⟩, ?_⟩
  exact EV.out

set_option maxRecDepth 100000 in
set_option maxHeartbeats 1600000 in
theorem sinstr_ai (g b off n c : Nat) (zs : List Int) (t : List Int) (z : Int) (w : World) (hz : Hid (Src n c zs)) (h : Hid (RsSt w g b off n c zs (.ok () (z :: t)))) (h25 : z < 25) (ha : Hid (qA z = true)) (hb : Hid (qB z = false)) (hc : Hid (qC z = false)) (hi : Hid (qI z = true)) :
    Calls Tryz.prog 49 #[.pointer (some ⟨g, 0, none⟩)] w (SIPost g b off n c zs (.ok () (z :: t)) w) := by
  have hg := h.out.lt
  have hne : w.heap.size ≠ g := by omega
  obtain ⟨W, hW⟩ : ∃ W, w.alloc (.cells #[.int .i64 0, .int .i64 0, .int .i64 0, .int .i64 0, .int .u64 0] 64) = W := ⟨_, rfl⟩
  have HW := hide hW
  have K0 := hide (show Ks w g b off n c zs (.ok () (z :: t)) W by rw [← hW]; exact (Ks.start h.out).alloc _)
  have hrow := hide (show Row W w.heap.size 64 sIns by rw [← hW]; exact Row.new w _ _)
  have hWs : W.heap.size = w.heap.size + 1 := by rw [← hW]; simp
  clear hW
  obtain ⟨k, e, r, hke, rfl, hs⟩ := K0.out.r
  obtain ⟨hk, cz, z0, z255, hs2⟩ := snext_byte hz.out r hs
  have c0 := r.row.cell (k := 0) rfl
  have c1 := r.row.cell (k := 1) rfl
  have c2 := r.row.cell (k := 2) rfl
  have q1 := r.row.free 1
  have q2 := r.row.free 2
  have hkn : (k : Int) < (n : Int) := by omega
  have hmost := hz.out.most
  have hbl := World.block_lt_of_cell? _ _ cz
  have gl : g < W.heap.size := by omega
  have cz' : ∀ (q : Nat) (o : Obj), ((W.drewN q).alloc o).cell? ⟨b, off + k, none⟩ = some (.int .u8 z) := fun q o => (World.cell?_alloc_lt (W.drewN q) o _ hbl).trans cz
  have c0' : ∀ (q : Nat) (o : Obj), ((W.drewN q).alloc o).cell? ⟨g, 0, none⟩ = some (.slice (some ⟨b, off, none⟩) n c) := fun q o => (World.cell?_alloc_lt (W.drewN q) o _ gl).trans c0
  have c1' : ∀ (q : Nat) (o : Obj), ((W.drewN q).alloc o).cell? ⟨g, 1, none⟩ = some (.int .i64 (k : Int)) := fun q o => (World.cell?_alloc_lt (W.drewN q) o _ gl).trans c1
  have q1' : ∀ (q : Nat) (o : Obj), ((W.drewN q).alloc o).frozen? ⟨g, 1, none⟩ = false := fun q o => ((r.row.drewN q).alloc o).free 1
  have KA := hide (fun q : Nat => (show Ks w g b off n c zs (.ok () t) (((W.drewN q).setCell ⟨g, 1, none⟩ (.int .i64 ((k : Int) + 1))).alloc (.cells #[.int .i64 z, .int .i64 0, .int .i64 0, .int .i64 0, .int .u64 0] 64)) from by
    have h1 := K0.out.drewN q
    have r2 := RsAt.set_at (w := W.drewN q) (ok := true) (k := k) ⟨r.row.drewN q, r.see.draws q⟩ (k + 1)
    rw [show (((k + 1 : Nat)) : Int) = (k : Int) + 1 by omega] at r2
    have h2 : Ks w g b off n c zs (.ok () t) ((W.drewN q).setCell ⟨g, 1, none⟩ (.int .i64 ((k : Int) + 1))) := ⟨⟨k + 1, true, r2, by omega, rfl, hs2⟩, grown_set h1.g 1 _⟩
    exact h2.alloc _))
  have RA := hide (fun q : Nat => (show Row (((W.drewN q).setCell ⟨g, 1, none⟩ (.int .i64 ((k : Int) + 1))).alloc (.cells #[.int .i64 z, .int .i64 0, .int .i64 0, .int .i64 0, .int .u64 0] 64)) (w.heap.size + 1) 64 [.int .i64 z, .int .i64 0, .int .i64 0, .int .i64 0, .int .u64 0] from
    (Row.new ((W.drewN q).setCell ⟨g, 1, none⟩ (.int .i64 ((k : Int) + 1))) 64 [.int .i64 z, .int .i64 0, .int .i64 0, .int .i64 0, .int .u64 0]).at_ (by simp [World.setCell]; exact hWs)))
  have RB := hide (fun q : Nat => (show Row (((W.drewN q).setCell ⟨g, 1, none⟩ (.int .i64 ((k : Int) + 1))).alloc (.cells #[.int .i64 z, .int .i64 0, .int .i64 0, .int .i64 0, .int .u64 0] 64)) w.heap.size 64 sIns from
    ((hrow.out.drewN q).far (by simpa using hne) _).alloc _))
  have E := hide (show ((Rd.ok () (z :: t) : Rd Unit).to minsQ) = opsJ (qA z) (qB z) (qC z) (qI z) z t from minsQ_near h25)
  rw [ha.out, hb.out, hc.out, hi.out] at E
  obtain ⟨v1, hv1⟩ : ∃ v, Hid (v = vlN true l31 (.ok () t)) := ⟨_, hide rfl⟩
  obtain ⟨S1, hS1⟩ : ∃ T, Hid (T = stN true l31 (.ok () t)) := ⟨_, hide rfl⟩
  obtain ⟨v2, hv2⟩ : ∃ v, Hid (v = vlN true wordR S1) := ⟨_, hide rfl⟩
  obtain ⟨S2, hS2⟩ : ∃ T, Hid (T = stN true wordR S1) := ⟨_, hide rfl⟩
  have ES := hide (show ((Rd.ok () (z :: t) : Rd Unit).to minsQ).st = S2 by
    rw [E.out, opsJ_st, hS2.out, hS1.out]
    rfl)
  have EV := hide (show ∀ (s : Ins) (r : List Int), (Rd.ok () (z :: t) : Rd Unit).to minsQ = .ok s r → (⟨z, (v1 : Int), 0, 0, (v2 : Int)⟩ : Ins) = s by
    intro s r e
    rw [E.out] at e
    rw [opsJ_val e, hv2.out, hv1.out, hS1.out]
    rfl)
  clear r hs hs2 K0 hrow E
  go_enter Tryz.func49, Tryz.ntmps49
  go_wp2_with fail
  rw [HW.out]
  go_quiet (fail)
  go_wp2_with fail
  go_region
  go_wp2_with fail
  refine (rq10_any z _ z0 h25).mono ?_
  rintro e w9 ⟨rfl, hw9⟩
  have K9 := hide (show Ks w g b off n c zs (.ok () t) w9 by rw [← hw9]; exact KA.out _)
  have RA9 := hide (show Row w9 (w.heap.size + 1) 64 [.int .i64 z, .int .i64 0, .int .i64 0, .int .i64 0, .int .u64 0] by rw [← hw9]; exact RA.out _)
  have RB9 := hide (show Row w9 w.heap.size 64 sIns by rw [← hw9]; exact RB.out _)
  clear hw9 KA RA RB
  rw [ha.out, hb.out, hc.out, hi.out]
  clear c0 c1 c2 q1 q2 cz cz' c0' c1' q1'
  go_wp2_with fail
  refine (snum_at hz (hide K9.out.r) hS1 hv1).mono ?_
  rintro e w1 ⟨rfl, hR, hG⟩
  have k1 := hide (K9.out.to hR hG)
  have ra1 := hide (RA9.out.grown hG (fun e => by injection e with e; omega))
  have rb1 := hide (RB9.out.grown hG (fun e => by injection e with e; omega))
  clear hR hG K9 RA9 RB9
  have p1 := ra1.out.cell (k := 1) rfl
  have q1 := ra1.out.free 1
  have K1 := hide (k1.out.set (gb := w.heap.size + 1) (by omega) hg 1 (.int .i64 (v1 : Int)))
  have RA1 := hide (ra1.out.set_ 1 (.int .i64 (v1 : Int)))
  have RB1 := hide (rb1.out.far (p := ⟨w.heap.size + 1, 1, none⟩) (by simp) (.int .i64 (v1 : Int)))
  clear k1 ra1 rb1
  have HV := hide (show v2 ≤ 18446744073709551615 by rw [hv2.out]; exact sword_val hz.out K1.out.r)
  go_wp2_with fail
  refine (sword_at hz (hide K1.out.r) hS2 hv2).mono ?_
  rintro e w2 ⟨rfl, hR, hG⟩
  have k2 := hide (K1.out.to hR hG)
  have ra2 := hide (RA1.out.grown hG (fun e => by injection e with e; omega))
  have rb2 := hide (RB1.out.grown hG (fun e => by injection e with e; omega))
  clear hR hG K1 RA1 RB1
  have p2 := ra2.out.cell (k := 4) rfl
  have q2 := ra2.out.free 4
  have K2 := hide (k2.out.set (gb := w.heap.size + 1) (by omega) hg 4 (.int .u64 (v2 : Int)))
  have RA2 := hide (ra2.out.set_ 4 (.int .u64 (v2 : Int)))
  have RB2 := hide (rb2.out.far (p := ⟨w.heap.size + 1, 4, none⟩) (by simp) (.int .u64 (v2 : Int)))
  clear k2 ra2 rb2
  have xa0 := RA2.out.cell (k := 0) rfl
  have xa1 := RA2.out.cell (k := 1) rfl
  have xa2 := RA2.out.cell (k := 2) rfl
  have xa3 := RA2.out.cell (k := 3) rfl
  have xa4 := RA2.out.cell (k := 4) rfl
  have x0 := RB2.out.cell (k := 0) rfl
  have y0 := RB2.out.free 0
  have x1 := RB2.out.cell (k := 1) rfl
  have y1 := RB2.out.free 1
  have x2 := RB2.out.cell (k := 2) rfl
  have y2 := RB2.out.free 2
  have x3 := RB2.out.cell (k := 3) rfl
  have y3 := RB2.out.free 3
  have x4 := RB2.out.cell (k := 4) rfl
  have y4 := RB2.out.free 4
  go_wp2
  have hf := (((((RB2.out).set_ 0 (.int .i64 z)).set_ 1 (.int .i64 (v1 : Int))).set_ 2 (.int .i64 0)).set_ 3 (.int .i64 0)).set_ 4 (.int .u64 (v2 : Int))
  have KF := (((((K2.out).set (Nat.le_refl w.heap.size) hg 0 (.int .i64 z)).set (Nat.le_refl w.heap.size) hg 1 (.int .i64 (v1 : Int))).set (Nat.le_refl w.heap.size) hg 2 (.int .i64 0)).set (Nat.le_refl w.heap.size) hg 3 (.int .i64 0)).set (Nat.le_refl w.heap.size) hg 4 (.int .u64 (v2 : Int))
  have f0 := hf.cell (k := 0) rfl
  have f1 := hf.cell (k := 1) rfl
  have f2 := hf.cell (k := 2) rfl
  have f3 := hf.cell (k := 3) rfl
  have f4 := hf.cell (k := 4) rfl
  refine bodyPost_ret (v := iv z (v1 : Int) 0 0 (v2 : Int)) (by simp [results, Tryz.results49, go_sem, f0, f1, f2, f3, f4]) rfl ⟨z, (v1 : Int), 0, 0, (v2 : Int), rfl, (by rw [ES.out]; exact KF.r), KF.g, ⟨by omega, by have := HV.out; omega⟩, ?_⟩
  exact EV.out

set_option maxRecDepth 100000 in
set_option maxHeartbeats 1600000 in
theorem sinstr_i (g b off n c : Nat) (zs : List Int) (t : List Int) (z : Int) (w : World) (hz : Hid (Src n c zs)) (h : Hid (RsSt w g b off n c zs (.ok () (z :: t)))) (h25 : z < 25) (ha : Hid (qA z = false)) (hb : Hid (qB z = false)) (hc : Hid (qC z = false)) (hi : Hid (qI z = true)) :
    Calls Tryz.prog 49 #[.pointer (some ⟨g, 0, none⟩)] w (SIPost g b off n c zs (.ok () (z :: t)) w) := by
  have hg := h.out.lt
  have hne : w.heap.size ≠ g := by omega
  obtain ⟨W, hW⟩ : ∃ W, w.alloc (.cells #[.int .i64 0, .int .i64 0, .int .i64 0, .int .i64 0, .int .u64 0] 64) = W := ⟨_, rfl⟩
  have HW := hide hW
  have K0 := hide (show Ks w g b off n c zs (.ok () (z :: t)) W by rw [← hW]; exact (Ks.start h.out).alloc _)
  have hrow := hide (show Row W w.heap.size 64 sIns by rw [← hW]; exact Row.new w _ _)
  have hWs : W.heap.size = w.heap.size + 1 := by rw [← hW]; simp
  clear hW
  obtain ⟨k, e, r, hke, rfl, hs⟩ := K0.out.r
  obtain ⟨hk, cz, z0, z255, hs2⟩ := snext_byte hz.out r hs
  have c0 := r.row.cell (k := 0) rfl
  have c1 := r.row.cell (k := 1) rfl
  have c2 := r.row.cell (k := 2) rfl
  have q1 := r.row.free 1
  have q2 := r.row.free 2
  have hkn : (k : Int) < (n : Int) := by omega
  have hmost := hz.out.most
  have hbl := World.block_lt_of_cell? _ _ cz
  have gl : g < W.heap.size := by omega
  have cz' : ∀ (q : Nat) (o : Obj), ((W.drewN q).alloc o).cell? ⟨b, off + k, none⟩ = some (.int .u8 z) := fun q o => (World.cell?_alloc_lt (W.drewN q) o _ hbl).trans cz
  have c0' : ∀ (q : Nat) (o : Obj), ((W.drewN q).alloc o).cell? ⟨g, 0, none⟩ = some (.slice (some ⟨b, off, none⟩) n c) := fun q o => (World.cell?_alloc_lt (W.drewN q) o _ gl).trans c0
  have c1' : ∀ (q : Nat) (o : Obj), ((W.drewN q).alloc o).cell? ⟨g, 1, none⟩ = some (.int .i64 (k : Int)) := fun q o => (World.cell?_alloc_lt (W.drewN q) o _ gl).trans c1
  have q1' : ∀ (q : Nat) (o : Obj), ((W.drewN q).alloc o).frozen? ⟨g, 1, none⟩ = false := fun q o => ((r.row.drewN q).alloc o).free 1
  have KA := hide (fun q : Nat => (show Ks w g b off n c zs (.ok () t) (((W.drewN q).setCell ⟨g, 1, none⟩ (.int .i64 ((k : Int) + 1))).alloc (.cells #[.int .i64 z, .int .i64 0, .int .i64 0, .int .i64 0, .int .u64 0] 64)) from by
    have h1 := K0.out.drewN q
    have r2 := RsAt.set_at (w := W.drewN q) (ok := true) (k := k) ⟨r.row.drewN q, r.see.draws q⟩ (k + 1)
    rw [show (((k + 1 : Nat)) : Int) = (k : Int) + 1 by omega] at r2
    have h2 : Ks w g b off n c zs (.ok () t) ((W.drewN q).setCell ⟨g, 1, none⟩ (.int .i64 ((k : Int) + 1))) := ⟨⟨k + 1, true, r2, by omega, rfl, hs2⟩, grown_set h1.g 1 _⟩
    exact h2.alloc _))
  have RA := hide (fun q : Nat => (show Row (((W.drewN q).setCell ⟨g, 1, none⟩ (.int .i64 ((k : Int) + 1))).alloc (.cells #[.int .i64 z, .int .i64 0, .int .i64 0, .int .i64 0, .int .u64 0] 64)) (w.heap.size + 1) 64 [.int .i64 z, .int .i64 0, .int .i64 0, .int .i64 0, .int .u64 0] from
    (Row.new ((W.drewN q).setCell ⟨g, 1, none⟩ (.int .i64 ((k : Int) + 1))) 64 [.int .i64 z, .int .i64 0, .int .i64 0, .int .i64 0, .int .u64 0]).at_ (by simp [World.setCell]; exact hWs)))
  have RB := hide (fun q : Nat => (show Row (((W.drewN q).setCell ⟨g, 1, none⟩ (.int .i64 ((k : Int) + 1))).alloc (.cells #[.int .i64 z, .int .i64 0, .int .i64 0, .int .i64 0, .int .u64 0] 64)) w.heap.size 64 sIns from
    ((hrow.out.drewN q).far (by simpa using hne) _).alloc _))
  have E := hide (show ((Rd.ok () (z :: t) : Rd Unit).to minsQ) = opsJ (qA z) (qB z) (qC z) (qI z) z t from minsQ_near h25)
  rw [ha.out, hb.out, hc.out, hi.out] at E
  obtain ⟨v1, hv1⟩ : ∃ v, Hid (v = vlN true wordR (.ok () t)) := ⟨_, hide rfl⟩
  obtain ⟨S1, hS1⟩ : ∃ T, Hid (T = stN true wordR (.ok () t)) := ⟨_, hide rfl⟩
  have ES := hide (show ((Rd.ok () (z :: t) : Rd Unit).to minsQ).st = S1 by
    rw [E.out, opsJ_st, hS1.out]
    rfl)
  have EV := hide (show ∀ (s : Ins) (r : List Int), (Rd.ok () (z :: t) : Rd Unit).to minsQ = .ok s r → (⟨z, 0, 0, 0, (v1 : Int)⟩ : Ins) = s by
    intro s r e
    rw [E.out] at e
    rw [opsJ_val e, hv1.out]
    rfl)
  clear r hs hs2 K0 hrow E
  go_enter Tryz.func49, Tryz.ntmps49
  go_wp2_with fail
  rw [HW.out]
  go_quiet (fail)
  go_wp2_with fail
  go_region
  go_wp2_with fail
  refine (rq10_any z _ z0 h25).mono ?_
  rintro e w9 ⟨rfl, hw9⟩
  have K9 := hide (show Ks w g b off n c zs (.ok () t) w9 by rw [← hw9]; exact KA.out _)
  have RA9 := hide (show Row w9 (w.heap.size + 1) 64 [.int .i64 z, .int .i64 0, .int .i64 0, .int .i64 0, .int .u64 0] by rw [← hw9]; exact RA.out _)
  have RB9 := hide (show Row w9 w.heap.size 64 sIns by rw [← hw9]; exact RB.out _)
  clear hw9 KA RA RB
  rw [ha.out, hb.out, hc.out, hi.out]
  clear c0 c1 c2 q1 q2 cz cz' c0' c1' q1'
  have HV := hide (show v1 ≤ 18446744073709551615 by rw [hv1.out]; exact sword_val hz.out K9.out.r)
  go_wp2_with fail
  refine (sword_at hz (hide K9.out.r) hS1 hv1).mono ?_
  rintro e w1 ⟨rfl, hR, hG⟩
  have k1 := hide (K9.out.to hR hG)
  have ra1 := hide (RA9.out.grown hG (fun e => by injection e with e; omega))
  have rb1 := hide (RB9.out.grown hG (fun e => by injection e with e; omega))
  clear hR hG K9 RA9 RB9
  have p1 := ra1.out.cell (k := 4) rfl
  have q1 := ra1.out.free 4
  have K1 := hide (k1.out.set (gb := w.heap.size + 1) (by omega) hg 4 (.int .u64 (v1 : Int)))
  have RA1 := hide (ra1.out.set_ 4 (.int .u64 (v1 : Int)))
  have RB1 := hide (rb1.out.far (p := ⟨w.heap.size + 1, 4, none⟩) (by simp) (.int .u64 (v1 : Int)))
  clear k1 ra1 rb1
  have xa0 := RA1.out.cell (k := 0) rfl
  have xa1 := RA1.out.cell (k := 1) rfl
  have xa2 := RA1.out.cell (k := 2) rfl
  have xa3 := RA1.out.cell (k := 3) rfl
  have xa4 := RA1.out.cell (k := 4) rfl
  have x0 := RB1.out.cell (k := 0) rfl
  have y0 := RB1.out.free 0
  have x1 := RB1.out.cell (k := 1) rfl
  have y1 := RB1.out.free 1
  have x2 := RB1.out.cell (k := 2) rfl
  have y2 := RB1.out.free 2
  have x3 := RB1.out.cell (k := 3) rfl
  have y3 := RB1.out.free 3
  have x4 := RB1.out.cell (k := 4) rfl
  have y4 := RB1.out.free 4
  go_wp2
  have hf := (((((RB1.out).set_ 0 (.int .i64 z)).set_ 1 (.int .i64 0)).set_ 2 (.int .i64 0)).set_ 3 (.int .i64 0)).set_ 4 (.int .u64 (v1 : Int))
  have KF := (((((K1.out).set (Nat.le_refl w.heap.size) hg 0 (.int .i64 z)).set (Nat.le_refl w.heap.size) hg 1 (.int .i64 0)).set (Nat.le_refl w.heap.size) hg 2 (.int .i64 0)).set (Nat.le_refl w.heap.size) hg 3 (.int .i64 0)).set (Nat.le_refl w.heap.size) hg 4 (.int .u64 (v1 : Int))
  have f0 := hf.cell (k := 0) rfl
  have f1 := hf.cell (k := 1) rfl
  have f2 := hf.cell (k := 2) rfl
  have f3 := hf.cell (k := 3) rfl
  have f4 := hf.cell (k := 4) rfl
  refine bodyPost_ret (v := iv z 0 0 0 (v1 : Int)) (by simp [results, Tryz.results49, go_sem, f0, f1, f2, f3, f4]) rfl ⟨z, 0, 0, 0, (v1 : Int), rfl, (by rw [ES.out]; exact KF.r), KF.g, ⟨by omega, by have := HV.out; omega⟩, ?_⟩
  exact EV.out

set_option maxRecDepth 100000 in
set_option maxHeartbeats 1600000 in
theorem sinstr_o (g b off n c : Nat) (zs : List Int) (t : List Int) (z : Int) (w : World) (hz : Hid (Src n c zs)) (h : Hid (RsSt w g b off n c zs (.ok () (z :: t)))) (h25 : z < 25) (ha : Hid (qA z = false)) (hb : Hid (qB z = false)) (hc : Hid (qC z = false)) (hi : Hid (qI z = false)) :
    Calls Tryz.prog 49 #[.pointer (some ⟨g, 0, none⟩)] w (SIPost g b off n c zs (.ok () (z :: t)) w) := by
  have hg := h.out.lt
  have hne : w.heap.size ≠ g := by omega
  obtain ⟨W, hW⟩ : ∃ W, w.alloc (.cells #[.int .i64 0, .int .i64 0, .int .i64 0, .int .i64 0, .int .u64 0] 64) = W := ⟨_, rfl⟩
  have HW := hide hW
  have K0 := hide (show Ks w g b off n c zs (.ok () (z :: t)) W by rw [← hW]; exact (Ks.start h.out).alloc _)
  have hrow := hide (show Row W w.heap.size 64 sIns by rw [← hW]; exact Row.new w _ _)
  have hWs : W.heap.size = w.heap.size + 1 := by rw [← hW]; simp
  clear hW
  obtain ⟨k, e, r, hke, rfl, hs⟩ := K0.out.r
  obtain ⟨hk, cz, z0, z255, hs2⟩ := snext_byte hz.out r hs
  have c0 := r.row.cell (k := 0) rfl
  have c1 := r.row.cell (k := 1) rfl
  have c2 := r.row.cell (k := 2) rfl
  have q1 := r.row.free 1
  have q2 := r.row.free 2
  have hkn : (k : Int) < (n : Int) := by omega
  have hmost := hz.out.most
  have hbl := World.block_lt_of_cell? _ _ cz
  have gl : g < W.heap.size := by omega
  have cz' : ∀ (q : Nat) (o : Obj), ((W.drewN q).alloc o).cell? ⟨b, off + k, none⟩ = some (.int .u8 z) := fun q o => (World.cell?_alloc_lt (W.drewN q) o _ hbl).trans cz
  have c0' : ∀ (q : Nat) (o : Obj), ((W.drewN q).alloc o).cell? ⟨g, 0, none⟩ = some (.slice (some ⟨b, off, none⟩) n c) := fun q o => (World.cell?_alloc_lt (W.drewN q) o _ gl).trans c0
  have c1' : ∀ (q : Nat) (o : Obj), ((W.drewN q).alloc o).cell? ⟨g, 1, none⟩ = some (.int .i64 (k : Int)) := fun q o => (World.cell?_alloc_lt (W.drewN q) o _ gl).trans c1
  have q1' : ∀ (q : Nat) (o : Obj), ((W.drewN q).alloc o).frozen? ⟨g, 1, none⟩ = false := fun q o => ((r.row.drewN q).alloc o).free 1
  have KA := hide (fun q : Nat => (show Ks w g b off n c zs (.ok () t) (((W.drewN q).setCell ⟨g, 1, none⟩ (.int .i64 ((k : Int) + 1))).alloc (.cells #[.int .i64 z, .int .i64 0, .int .i64 0, .int .i64 0, .int .u64 0] 64)) from by
    have h1 := K0.out.drewN q
    have r2 := RsAt.set_at (w := W.drewN q) (ok := true) (k := k) ⟨r.row.drewN q, r.see.draws q⟩ (k + 1)
    rw [show (((k + 1 : Nat)) : Int) = (k : Int) + 1 by omega] at r2
    have h2 : Ks w g b off n c zs (.ok () t) ((W.drewN q).setCell ⟨g, 1, none⟩ (.int .i64 ((k : Int) + 1))) := ⟨⟨k + 1, true, r2, by omega, rfl, hs2⟩, grown_set h1.g 1 _⟩
    exact h2.alloc _))
  have RA := hide (fun q : Nat => (show Row (((W.drewN q).setCell ⟨g, 1, none⟩ (.int .i64 ((k : Int) + 1))).alloc (.cells #[.int .i64 z, .int .i64 0, .int .i64 0, .int .i64 0, .int .u64 0] 64)) (w.heap.size + 1) 64 [.int .i64 z, .int .i64 0, .int .i64 0, .int .i64 0, .int .u64 0] from
    (Row.new ((W.drewN q).setCell ⟨g, 1, none⟩ (.int .i64 ((k : Int) + 1))) 64 [.int .i64 z, .int .i64 0, .int .i64 0, .int .i64 0, .int .u64 0]).at_ (by simp [World.setCell]; exact hWs)))
  have RB := hide (fun q : Nat => (show Row (((W.drewN q).setCell ⟨g, 1, none⟩ (.int .i64 ((k : Int) + 1))).alloc (.cells #[.int .i64 z, .int .i64 0, .int .i64 0, .int .i64 0, .int .u64 0] 64)) w.heap.size 64 sIns from
    ((hrow.out.drewN q).far (by simpa using hne) _).alloc _))
  have E := hide (show ((Rd.ok () (z :: t) : Rd Unit).to minsQ) = opsJ (qA z) (qB z) (qC z) (qI z) z t from minsQ_near h25)
  rw [ha.out, hb.out, hc.out, hi.out] at E
  have ES := hide (show ((Rd.ok () (z :: t) : Rd Unit).to minsQ).st = (.ok () t) by
    rw [E.out, opsJ_st]
    rfl)
  have EV := hide (show ∀ (s : Ins) (r : List Int), (Rd.ok () (z :: t) : Rd Unit).to minsQ = .ok s r → (⟨z, 0, 0, 0, 0⟩ : Ins) = s by
    intro s r e
    rw [E.out] at e
    rw [opsJ_val e]
    rfl)
  clear r hs hs2 K0 hrow E
  go_enter Tryz.func49, Tryz.ntmps49
  go_wp2_with fail
  rw [HW.out]
  go_quiet (fail)
  go_wp2_with fail
  go_region
  go_wp2_with fail
  refine (rq10_any z _ z0 h25).mono ?_
  rintro e w9 ⟨rfl, hw9⟩
  have K9 := hide (show Ks w g b off n c zs (.ok () t) w9 by rw [← hw9]; exact KA.out _)
  have RA9 := hide (show Row w9 (w.heap.size + 1) 64 [.int .i64 z, .int .i64 0, .int .i64 0, .int .i64 0, .int .u64 0] by rw [← hw9]; exact RA.out _)
  have RB9 := hide (show Row w9 w.heap.size 64 sIns by rw [← hw9]; exact RB.out _)
  clear hw9 KA RA RB
  rw [ha.out, hb.out, hc.out, hi.out]
  clear c0 c1 c2 q1 q2 cz cz' c0' c1' q1'
  have xa0 := RA9.out.cell (k := 0) rfl
  have xa1 := RA9.out.cell (k := 1) rfl
  have xa2 := RA9.out.cell (k := 2) rfl
  have xa3 := RA9.out.cell (k := 3) rfl
  have xa4 := RA9.out.cell (k := 4) rfl
  have x0 := RB9.out.cell (k := 0) rfl
  have y0 := RB9.out.free 0
  have x1 := RB9.out.cell (k := 1) rfl
  have y1 := RB9.out.free 1
  have x2 := RB9.out.cell (k := 2) rfl
  have y2 := RB9.out.free 2
  have x3 := RB9.out.cell (k := 3) rfl
  have y3 := RB9.out.free 3
  have x4 := RB9.out.cell (k := 4) rfl
  have y4 := RB9.out.free 4
  go_wp2
  have hf := (((((RB9.out).set_ 0 (.int .i64 z)).set_ 1 (.int .i64 0)).set_ 2 (.int .i64 0)).set_ 3 (.int .i64 0)).set_ 4 (.int .u64 0)
  have KF := (((((K9.out).set (Nat.le_refl w.heap.size) hg 0 (.int .i64 z)).set (Nat.le_refl w.heap.size) hg 1 (.int .i64 0)).set (Nat.le_refl w.heap.size) hg 2 (.int .i64 0)).set (Nat.le_refl w.heap.size) hg 3 (.int .i64 0)).set (Nat.le_refl w.heap.size) hg 4 (.int .u64 0)
  have f0 := hf.cell (k := 0) rfl
  have f1 := hf.cell (k := 1) rfl
  have f2 := hf.cell (k := 2) rfl
  have f3 := hf.cell (k := 3) rfl
  have f4 := hf.cell (k := 4) rfl
  refine bodyPost_ret (v := iv z 0 0 0 0) (by simp [results, Tryz.results49, go_sem, f0, f1, f2, f3, f4]) rfl ⟨z, 0, 0, 0, 0, rfl, (by rw [ES.out]; exact KF.r), KF.g, ⟨by decide, by decide⟩, ?_⟩
  exact EV.out

theorem qshapes_of {z : Int} (h0 : 0 ≤ z) (h1 : z < 25) : (qA z = true ∧ qB z = true ∧ qC z = true ∧ qI z = false) ∨ (qA z = true ∧ qB z = true ∧ qC z = false ∧ qI z = false) ∨ (qA z = true ∧ qB z = false ∧ qC z = false ∧ qI z = false) ∨ (qA z = true ∧ qB z = false ∧ qC z = false ∧ qI z = true) ∨ (qA z = false ∧ qB z = false ∧ qC z = false ∧ qI z = true) ∨ (qA z = false ∧ qB z = false ∧ qC z = false ∧ qI z = false) := by
  have e : ∀ k : Fin 25, (qA (k.val : Int) = true ∧ qB (k.val : Int) = true ∧ qC (k.val : Int) = true ∧ qI (k.val : Int) = false) ∨ (qA (k.val : Int) = true ∧ qB (k.val : Int) = true ∧ qC (k.val : Int) = false ∧ qI (k.val : Int) = false) ∨ (qA (k.val : Int) = true ∧ qB (k.val : Int) = false ∧ qC (k.val : Int) = false ∧ qI (k.val : Int) = false) ∨ (qA (k.val : Int) = true ∧ qB (k.val : Int) = false ∧ qC (k.val : Int) = false ∧ qI (k.val : Int) = true) ∨ (qA (k.val : Int) = false ∧ qB (k.val : Int) = false ∧ qC (k.val : Int) = false ∧ qI (k.val : Int) = true) ∨ (qA (k.val : Int) = false ∧ qB (k.val : Int) = false ∧ qC (k.val : Int) = false ∧ qI (k.val : Int) = false) := by decide
  have := e ⟨z.toNat, by omega⟩
  simp only at this
  rwa [Int.toNat_of_nonneg h0] at this
theorem sinstr_any (g b off n c : Nat) (zs : List Int) (S : Rd Unit) (w : World) (hz : Hid (Src n c zs)) (h : Hid (RsSt w g b off n c zs S)) :
    Calls Tryz.prog 49 #[.pointer (some ⟨g, 0, none⟩)] w (SIPost g b off n c zs S w) := by
  cases S with
  | no x => exact sinstr_no g b off n c zs x w h
  | ok u l =>
    cases l with
    | nil => exact sinstr_end g b off n c zs w hz h
    | cons z t =>
      by_cases h25 : 25 ≤ z
      · exact sinstr_far g b off n c zs t z w hz h h25
      · have h0 : 0 ≤ z := (h.out.byt hz.out z List.mem_cons_self).1
        rcases qshapes_of h0 (by omega) with ⟨a1, a2, a3, a4⟩ | ⟨a1, a2, a3, a4⟩ | ⟨a1, a2, a3, a4⟩ | ⟨a1, a2, a3, a4⟩ | ⟨a1, a2, a3, a4⟩ | ⟨a1, a2, a3, a4⟩
        · exact sinstr_aaa g b off n c zs t z w hz h (by omega) (hide a1) (hide a2) (hide a3) (hide a4)
        · exact sinstr_aa g b off n c zs t z w hz h (by omega) (hide a1) (hide a2) (hide a3) (hide a4)
        · exact sinstr_a g b off n c zs t z w hz h (by omega) (hide a1) (hide a2) (hide a3) (hide a4)
        · exact sinstr_ai g b off n c zs t z w hz h (by omega) (hide a1) (hide a2) (hide a3) (hide a4)
        · exact sinstr_i g b off n c zs t z w hz h (by omega) (hide a1) (hide a2) (hide a3) (hide a4)
        · exact sinstr_o g b off n c zs t z w hz h (by omega) (hide a1) (hide a2) (hide a3) (hide a4)
end Go.Proofs.YtlcmcmocjbeocaaGreatDoor
end
