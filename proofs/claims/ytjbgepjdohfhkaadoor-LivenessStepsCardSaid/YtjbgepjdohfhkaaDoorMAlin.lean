import Derived.Test.YtjbgepjdohfhkaaDoorMAstm
import Derived.Test.YtjbgepjdohfhkaaDoorMPown
import Derived.Test.YtjbgepjdohfhkaaDoorMBwun
import Derived.Test.YtjbgepjdohfhkaaDoorMFbf
import Derived.Test.YtjbgepjdohfhkaaDoorMBruni
import Derived.Deep.RegionHeld3
import Derived.Deep.DeepCutAuto
set_option linter.unusedVariables false
set_option linter.unusedSimpArgs false
section
/-
  The contract of liveness.Ins: what may be read ahead of each instruction. Conditions: those of the types; the function is right; the annotation has a set of slots for each instruction; the table of TrailingZeros64 lies as its initialiser lays it.
-/
namespace Go.Proofs.YtjbgepjdohfhkaaDoor
open Go.RowKit

structure InI (w : World) (P : Int) (A1 : Option Addr) (n1 c1 : Nat) (A2 : Option Addr) (n2 c2 : Nat) (AL : Option Addr) (cL : Nat) (vs : List Value) (zss : List (List Int)) (wr : World) : Prop where
  f : Row wr w.heap.size 27 [.int .i64 P, .slice A1 n1 c1, .slice A2 n2 c2]
  l : Row wr (w.heap.size + 1) 30 [.slice AL n2 cL]
  o : Anw wr w.heap.size (w.heap.size + 2) vs [] zss
  b : Below w.heap.size w wr
section
variable {P : Int} {A1 : Option Addr} {n1 c1 : Nat} {A2 : Option Addr} {n2 c2 : Nat} {AL : Option Addr} {cL : Nat} {l : List Ins} {L zss : List (List Int)} {M : Nat} {w wr w2 : World} {vs : List Value}
theorem InI.call (h : InI w P A1 n1 c1 A2 n2 c2 AL cL vs zss wr) (hb : Below wr.heap.size wr w2) : InI w P A1 n1 c1 A2 n2 c2 AL cL vs zss w2 := ⟨h.f.call hb, h.l.call hb, h.o.below hb, below_call h.b hb⟩
theorem InI.put (h : InI w P A1 n1 c1 A2 n2 c2 AL cL vs zss wr) {j : Nat} {v : Value} {zs : List Int} (hj : j < zss.length) (hv : wr.ownsRow w.heap.size 3 1 v zs.length (cellsI zs)) (hr : IntOk zs) :
    InI w P A1 n1 c1 A2 n2 c2 AL cL (vs.set j v) (zss.set j zs) (wr.setCell ⟨w.heap.size + 2, j, none⟩ v) :=
  ⟨h.f.far (p := ⟨w.heap.size + 2, j, none⟩) (by simp) _, h.l.far (p := ⟨w.heap.size + 2, j, none⟩) (by simp) _, h.o.put hj hv hr, h.b.setCell (p := ⟨w.heap.size + 2, j, none⟩) (by simp) _⟩
set_option maxRecDepth 100000 in
set_option maxHeartbeats 4000000 in
theorem lins_any (w : World) (hC : Hid (CdAt w A2 n2 l)) (hok : Hid (LvOk l M)) (hL : Hid (Ann w AL n2 L)) (hLI : Hid (LvIn n2 M L)) (hT : Hid (Tab w)) :
    Calls Tryd.prog 8 #[fv P A1 n1 c1 A2 n2 c2, .agg #[.slice AL n2 cL]] w (AnPost (insL l L) w) := by
  obtain ⟨j0, ji, jz0, jz1, jz2⟩ := info_parts infoS
  have hlen := hC.out.len
  have hn2 := hC.out.few
  have hmk := fmade2 (P := Tryd.prog) Tryd.underlying28 ji jz0 jz1 (by omega) rfl n2 (by omega) (L := nils n2) rfl
  obtain ⟨W2, hW2⟩ : ∃ W, (w.alloc (.cells #[.int .i64 P, .slice A1 n1 c1, .slice A2 n2 c2] 27)).alloc (.cells #[.slice AL n2 cL] 30) = W := ⟨_, rfl⟩
  have F2 := hide (show Row W2 w.heap.size 27 [.int .i64 P, .slice A1 n1 c1, .slice A2 n2 c2] by rw [← hW2]; exact (Row.new w _ _).alloc _)
  have L2 := hide (show Row W2 (w.heap.size + 1) 30 [.slice AL n2 cL] by rw [← hW2]; exact (Row.new _ _ _).at_ (by simp))
  have B2 := hide (show Below w.heap.size w W2 by rw [← hW2]; exact below2 w _ _)
  have hs2 : W2.heap.size = w.heap.size + 2 := by rw [← hW2]; simp
  obtain ⟨W3, hW3⟩ : ∃ W, W2.alloc (.cells (nils n2).toArray 42) = W := ⟨_, rfl⟩
  have I3 := hide (show InI w P A1 n1 c1 A2 n2 c2 AL cL (nils n2) (inI l L 0) W3 by
    rw [inI_start, hlen, ← hW3]
    exact ⟨F2.out.alloc _, L2.out.alloc _, Anw.make ((Row.new W2 _ _).at_ hs2) (by omega), B2.out.alloc B2.out.size _⟩)
  have HW3 := hide hW3
  have HW2 := hide hW2
  have HS2 := hide hs2
  clear hW2 hs2 hW3
  go_enter Tryd.func8, Tryd.ntmps8
  go_upto_region 1 with (fail)
  rw [HW2.out]
  have q2 := F2.out.cell (k := 2) rfl
  clear HW2
  go_upto_region 2 with (fail)
  rw [HS2.out, HW3.out]
  clear q2 hmk HW3 HS2 F2 L2 B2
  have q2 := I3.out.f.cell (k := 2) rfl
  go_wp2_with fail
  clear q2
  go_loopw [6, 7, 15] (fun s6 s7 s15 wr => ∃ (k : Nat) (vs : List Value), s15 = .int .i64 (k : Int) ∧ k ≤ n2 ∧ Hid (InI w P A1 n1 c1 A2 n2 c2 AL cL vs (inI l L k) wr)) (fun _ _ s15 _ => n2 - (intOf s15).toNat)
  case atStart => exact ⟨0, _, rfl, by omega, I3⟩
  case round =>
    obtain ⟨k, vs, rfl, hkn, hI⟩ := hrel
    clear I3
    by_cases hlt : k < n2
    · have hk0 : (0 : Int) ≤ (k : Int) := by omega
      have hkn : (k : Int) < (n2 : Int) := by omega
      have hkl : k < l.length := by omega
      obtain ⟨x, hx⟩ : ∃ x, l[k]? = some x := ⟨_, List.getElem?_eq_getElem hkl⟩
      obtain ⟨_, hxe⟩ := List.getElem?_eq_some_iff.1 hx
      obtain ⟨b2, o2, rfl, hb2, y0, y1, y2, y3, y4⟩ := ins_at hC.out.see hkl
      rw [hxe] at y0 y1 y2 y3 y4
      obtain ⟨b3, o3, A3, c3, rfl, hb3, y5, hl3, hn3⟩ := hL.out.at_ (i := k) hlt
      obtain ⟨zj, hzj⟩ : ∃ z, L.getD k [] = z := ⟨_, rfl⟩
      have hzA : Asc zj := by rw [← hzj]; exact hLI.out.asc k
      have hKJ : inK l L k = inX x zj := by rw [inK_some hx, hzj]
      rw [hzj] at y5 hl3
      have z0 := keep_cellB hI.out.b y0
      have z1 := keep_cellB hI.out.b y1
      have z2 := keep_cellB hI.out.b y2
      have z3 := keep_cellB hI.out.b y3
      have z4 := keep_cellB hI.out.b y4
      obtain ⟨W4, hW4⟩ : ∃ V, wr.alloc (.cells #[.int .i64 x.op, .int .i64 x.a, .int .i64 x.b, .int .i64 x.c, .int .u64 x.imm] 47) = V := ⟨_, rfl⟩
      have hb4 : Below wr.heap.size wr W4 := by rw [← hW4]; exact below1 _ _
      have I4 := hide (hI.out.call hb4)
      obtain ⟨X, hX⟩ : ∃ X, wr.heap.size = X := ⟨_, rfl⟩
      have R4 := hide (show Row W4 X 47 [.int .i64 x.op, .int .i64 x.a, .int .i64 x.b, .int .i64 x.c, .int .u64 x.imm] by rw [← hW4, ← hX]; exact Row.new wr _ _)
      have HX := hide hX
      have HW4 := hide hW4
      have hxs : w.heap.size + 2 < X := by have := hI.out.o.row.lt; omega
      have HST := hide (inI_step (L := L) hkl)
      have HAL := hide (show k < (inI l L k).length by rw [inI_len]; exact hkl)
      have HVA := hide (inK_asc (l := l) (L := L) hLI.out.asc k)
      have CI := hide (fun (V : World) (h : Below w.heap.size w V) =>
        (show Calls Tryd.prog 22 #[iv x.op x.a x.b x.c x.imm, .slice A3 zj.length c3] V (OutPost (inK l L k) V) by
          have q := ein_use x.op x.a x.b x.c x.imm A3 zj.length c3 zj V (hide (fun hd => by have h1 := hok.out.dfn k x hx hd; have h2 := hok.out.few; omega)) (hide (hok.out.usAsc hx)) (hide (hl3.below h)) (hide hzA) (hide (hT.out.below h))
          rw [hKJ]
          exact q))
      obtain ⟨r, hr⟩ : ∃ r, inK l L k = r := ⟨_, rfl⟩
      rw [hr] at HST HVA CI
      have HRA := hide (IntOk.asc HVA.out)
      have HPT := hide (fun (V : World) (A' : Option Addr) (c' : Nat) (h : Hid (InI w P A1 n1 c1 (some ⟨b2, o2, none⟩) n2 c2 (some ⟨b3, o3, none⟩) cL vs (inI l L k) V)) (ho : V.ownsRow w.heap.size 3 1 (.slice A' r.length c') r.length (cellsI r)) =>
        (show InI w P A1 n1 c1 (some ⟨b2, o2, none⟩) n2 c2 (some ⟨b3, o3, none⟩) cL (vs.set k (.slice A' r.length c')) (inI l L (k + 1)) (V.setCell ⟨w.heap.size + 2, k, none⟩ (.slice A' r.length c')) by
          rw [HST.out]; exact h.out.put HAL.out ho HRA.out))
      have HZ := hide (fun (V : World) (h : Hid (InI w P A1 n1 c1 (some ⟨b2, o2, none⟩) n2 c2 (some ⟨b3, o3, none⟩) cL vs (inI l L k) V)) => (show (∃ u, V.cell? ⟨w.heap.size + 2, k, none⟩ = some u) ∧ V.frozen? ⟨w.heap.size + 2, k, none⟩ = false from
        ⟨by obtain ⟨Ak, ck, -, z, -⟩ := h.out.o.vat (List.getElem?_eq_getElem HAL.out); exact ⟨_, z⟩, h.out.o.free k⟩))
      have KS := hide (fun (V : World) (hR : Hid (Row V X 47 [.int .i64 x.op, .int .i64 x.a, .int .i64 x.b, .int .i64 x.c, .int .u64 x.imm])) (h : Hid (InI w P A1 n1 c1 (some ⟨b2, o2, none⟩) n2 c2 (some ⟨b3, o3, none⟩) cL vs (inI l L k) V)) =>
        (⟨hR.out.cell (k := 0) rfl, hR.out.cell (k := 1) rfl, hR.out.cell (k := 2) rfl, hR.out.cell (k := 3) rfl, hR.out.cell (k := 4) rfl, h.out.l.cell (k := 0) rfl, keep_cellB h.out.b y5⟩ : _ ∧ _ ∧ _ ∧ _ ∧ _ ∧ _ ∧ _))
      have HSZ := hide I4.out.b.size
      clear hxe hx hzj hzA hKJ hr y0 y1 y2 y3 y4 y5 hl3 hn3 hb2 hb3 hb4 hW4 hX hI
      go_upto_region 5 with (fail)
      rw [HW4.out, HX.out]
      clear z0 z1 z2 z3 z4 HW4 HX
      have q5 := I4.out.l.cell (k := 0) rfl
      go_upto_region 6 with (fail)
      clear q5
      have J0 := hide (I4.out.call (Below.refl _ _).drew)
      have R0 := hide (R4.out.call (Below.refl _ _).drew)
      have HS0 := KS.out _ R0 J0
      have B0 := hide (show Below W4.heap.size W4 W4.drew from (Below.refl _ _).drew)
      refine wp_region_lastH (S := (fun V => V.cell? ⟨X, 0, none⟩ = some (.int .i64 x.op) ∧ V.cell? ⟨X, 1, none⟩ = some (.int .i64 x.a) ∧ V.cell? ⟨X, 2, none⟩ = some (.int .i64 x.b) ∧ V.cell? ⟨X, 3, none⟩ = some (.int .i64 x.c) ∧ V.cell? ⟨X, 4, none⟩ = some (.int .u64 x.imm) ∧
          V.cell? ⟨w.heap.size + 1, 0, none⟩ = some (.slice (some ⟨b3, o3, none⟩) n2 cL) ∧ V.cell? ⟨b3, o3 + k, none⟩ = some (.slice A3 zj.length c3))) 10 (by kernel_rfl) rfl rfl (by kernel_rfl) ?_
      have hHeld := HS0
      refine wpAnyH_take (i := 0) (v := ?_) tk_0 (by kernel_rfl) (by kernel_rfl) (by kernel_rfl) (fun _ _ _ h => h) (Or.inl ⟨by rfl, ?_⟩) hHeld ?_
      rotate_left
      · intro V hSw
        try dsimp only at hSw
        go_simp
        all_goals with_reducible rfl
      try simp only [Act.put, List.setIfInBounds_toArray, List.set_cons_zero, List.set_cons_succ]
      refine wpAnyH_take (i := 1) (v := ?_) tk_1 (by kernel_rfl) (by kernel_rfl) (by kernel_rfl) (fun _ _ _ h => h) (Or.inl ⟨by rfl, ?_⟩) hHeld ?_
      rotate_left
      · intro V hSw
        try dsimp only at hSw
        go_simp
        all_goals with_reducible rfl
      try simp only [Act.put, List.setIfInBounds_toArray, List.set_cons_zero, List.set_cons_succ]
      refine wpAnyH_take (i := 2) (v := ?_) tk_2 (by kernel_rfl) (by kernel_rfl) (by kernel_rfl) (fun _ _ _ h => h) (Or.inl ⟨by rfl, ?_⟩) hHeld ?_
      rotate_left
      · intro V hSw
        try dsimp only at hSw
        go_simp
        all_goals with_reducible rfl
      try simp only [Act.put, List.setIfInBounds_toArray, List.set_cons_zero, List.set_cons_succ]
      refine wpAnyH_take (i := 3) (v := ?_) tk_3 (by kernel_rfl) (by kernel_rfl) (by kernel_rfl) (fun _ _ _ h => h) (Or.inl ⟨by rfl, ?_⟩) hHeld ?_
      rotate_left
      · intro V hSw
        try dsimp only at hSw
        go_simp
        all_goals with_reducible rfl
      try simp only [Act.put, List.setIfInBounds_toArray, List.set_cons_zero, List.set_cons_succ]
      refine wpAnyH_take (i := 4) (v := ?_) tk_4 (by kernel_rfl) (by kernel_rfl) (by kernel_rfl) (fun _ _ _ h => h) (Or.inl ⟨by rfl, ?_⟩) hHeld ?_
      rotate_left
      · intro V hSw
        try dsimp only at hSw
        go_simp
        all_goals with_reducible rfl
      try simp only [Act.put, List.setIfInBounds_toArray, List.set_cons_zero, List.set_cons_succ]
      refine wpAnyH_take (i := 5) (v := ?_) tk_5 (by kernel_rfl) (by kernel_rfl) (by kernel_rfl) (fun _ _ _ h => h) (Or.inl ⟨by rfl, ?_⟩) hHeld ?_
      rotate_left
      · intro V hSw
        try dsimp only at hSw
        go_simp
        all_goals with_reducible rfl
      try simp only [Act.put, List.setIfInBounds_toArray, List.set_cons_zero, List.set_cons_succ]
      refine wpAnyH_take (i := 6) (v := ?_) tk_6 (by kernel_rfl) (by kernel_rfl) (by kernel_rfl) (fun _ _ _ h => h) (Or.inl ⟨by rfl, ?_⟩) hHeld ?_
      rotate_left
      · intro V hSw
        try dsimp only at hSw
        go_simp
        all_goals with_reducible rfl
      try simp only [Act.put, List.setIfInBounds_toArray, List.set_cons_zero, List.set_cons_succ]
      refine wpAnyH_take (i := 7) (v := ?_) tk_7 (by kernel_rfl) (by kernel_rfl) (by kernel_rfl) (fun _ _ _ h => h) (Or.inl ⟨by rfl, ?_⟩) hHeld ?_
      rotate_left
      · intro V hSw
        try dsimp only at hSw
        go_simp
        all_goals with_reducible rfl
      try simp only [Act.put, List.setIfInBounds_toArray, List.set_cons_zero, List.set_cons_succ]
      refine wpAnyH_ready (rs := [8]) (by kernel_rfl) (by simp) ?_
      refine AllReadyH.cons tk_8 (fun K hK => ?_) AllReadyH.nil
      go_simp
      go_at_call 22
      with_reducible refine Calls.mono (CI.out _ J0.out.b) ?_
      intro e w6 h6
      unfold OutPost at h6
      obtain ⟨A6, c6, rfl, ho6, hb6⟩ := h6
      have J6 := hide (J0.out.call hb6)
      have R6 := hide (R0.out.call hb6)
      have HS6 := KS.out _ R6 J6
      obtain ⟨⟨u6, z6⟩, f6⟩ := HZ.out _ J6
      have J7 := hide (HPT.out _ _ _ J6 (own_lower ho6 (Nat.le_trans HSZ.out B0.out.size)))
      clear ho6 hb6
      refine hK.out _ _ HS6 (fun hHeld => ?_)
      clear hK K
      try simp only [Act.put, List.setIfInBounds_toArray, List.set_cons_zero, List.set_cons_succ]
      refine wpAnyH_take (i := 9) (v := ?_) tk_9 (by kernel_rfl) (by kernel_rfl) (by kernel_rfl) (fun _ _ _ h => h) (Or.inl ⟨by rfl, ?_⟩) hHeld ?_
      rotate_left
      · intro V hSw
        try dsimp only at hSw
        go_simp
        all_goals with_reducible rfl
      try simp only [Act.put, List.setIfInBounds_toArray, List.set_cons_zero, List.set_cons_succ]
      refine wpAnyH_done (by kernel_rfl) ?_ _
      unfold LastQ
      clear HS0 HS6 CI HZ KS J0 R0 R6 HPT HST HRA HAL I4 R4
      go_wp2_with fail
      go_roundw
      case rel => exact ⟨k + 1, _, by go_num, by omega, J7⟩
      case measure => simp [intOf]; omega
    · obtain rfl : k = n2 := by omega
      have HE := hide (show inI l L k = insL l L by rw [← hlen]; exact inI_end l L)
      have HF := hide (show AnPost (insL l L) w (.returned (.slice (some ⟨w.heap.size + 2, 0, none⟩) k k)) wr from ⟨w.heap.size + 2, vs, by rw [insL_len, hlen], by rw [← HE.out]; exact hI.out.o, hI.out.b⟩)
      clear hI
      go_wp2_with fail
      go_ret
      exact HF.out
end
end Go.Proofs.YtjbgepjdohfhkaaDoor
end
