import Derived.Test.YtidlnecgfgnllaaDoorMAstm
import Derived.Test.YtidlnecgfgnllaaDoorMFrows
import Derived.Test.YtidlnecgfgnllaaDoorMBrrem
import Derived.Test.YtidlnecgfgnllaaDoorMFrn
import Derived.Test.YtidlnecgfgnllaaDoorMFbg
import Derived.Deep.RegionHeld3
import Derived.Deep.DeepCutAuto
set_option linter.unusedVariables false
set_option linter.unusedSimpArgs false
section
/-
  The contract of the reference's Step (chapter 16): each set is the union of what may be read ahead of its followers. Conditions: those of the types; the function is right; the annotation has a set of slots for each instruction.
-/
namespace Go.Proofs.YtidlnecgfgnllaaDoor
open Go.RowKit

/-- What it keeps in memory. -/
structure RsI (w : World) (P : Int) (A1 : Option Addr) (n1 c1 : Nat) (A2 : Option Addr) (n2 c2 : Nat) (AL : Option Addr) (cL : Nat) (vs : List Value) (zss : List (List Int)) (wr : World) : Prop where
  f : Row wr w.heap.size 30 [.int .i64 P, .slice A1 n1 c1, .slice A2 n2 c2]
  l : Row wr (w.heap.size + 1) 25 [.slice AL n2 cL]
  res : Row wr (w.heap.size + 1 + 1) 25 [.slice none 0 0]
  o : Anw wr w.heap.size (w.heap.size + 3) vs [] zss
  x : Row wr (w.heap.size + 3 + 1) 25 [.slice (some ⟨w.heap.size + 3, 0, none⟩) n2 n2]
  b : Below w.heap.size w wr
section
variable {P : Int} {A1 : Option Addr} {n1 c1 : Nat} {A2 : Option Addr} {n2 c2 : Nat} {AL : Option Addr} {cL : Nat} {l : List Ins} {L zss : List (List Int)} {M : Nat} {w wr w2 : World} {vs : List Value}
theorem RsI.call (h : RsI w P A1 n1 c1 A2 n2 c2 AL cL vs zss wr) (hb : Below wr.heap.size wr w2) : RsI w P A1 n1 c1 A2 n2 c2 AL cL vs zss w2 := ⟨h.f.call hb, h.l.call hb, h.res.call hb, h.o.below hb, h.x.call hb, below_call h.b hb⟩
theorem RsI.put (h : RsI w P A1 n1 c1 A2 n2 c2 AL cL vs zss wr) {j : Nat} {v : Value} {zs : List Int} (hj : j < zss.length) (hv : wr.ownsRow w.heap.size 3 1 v zs.length (cellsI zs)) (hr : IntOk zs) :
    RsI w P A1 n1 c1 A2 n2 c2 AL cL (vs.set j v) (zss.set j zs) (wr.setCell ⟨w.heap.size + 3, j, none⟩ v) :=
  ⟨h.f.far (p := ⟨w.heap.size + 3, j, none⟩) (by simp) _, h.l.far (p := ⟨w.heap.size + 3, j, none⟩) (by simp) _, h.res.far (p := ⟨w.heap.size + 3, j, none⟩) (by simp) _, h.o.put hj hv hr, h.x.far (p := ⟨w.heap.size + 3, j, none⟩) (by simp) _, h.b.setCell (p := ⟨w.heap.size + 3, j, none⟩) (by simp) _⟩
set_option maxRecDepth 100000 in
set_option maxHeartbeats 4000000 in
theorem rstep16_any (w : World) (hC : Hid (CdAt w A2 n2 l)) (hok : Hid (LvOk l M)) (hL : Hid (Ann w AL n2 L)) (hLI : Hid (LvIn n2 M L)) :
    Calls Tryd.prog 37 #[fv P A1 n1 c1 A2 n2 c2, .agg #[.slice AL n2 cL]] w (LvPost (stepL l L) w) := by
  obtain ⟨j0, ji, jz0, jz1, jz2⟩ := info_parts infoS
  have hlen := hC.out.len
  have hn2 := hC.out.few
  have hmk := fmade2 (P := Tryd.prog) Tryd.underlying23 ji jz0 jz1 (by omega) rfl n2 (by omega) (L := nils n2) rfl
  obtain ⟨W3, hW3⟩ : ∃ W, ((w.alloc (.cells #[.int .i64 P, .slice A1 n1 c1, .slice A2 n2 c2] 30)).alloc (.cells #[.slice AL n2 cL] 25)).alloc (.cells #[.slice none 0 0] 25) = W := ⟨_, rfl⟩
  have F3 := hide (show Row W3 w.heap.size 30 [.int .i64 P, .slice A1 n1 c1, .slice A2 n2 c2] by rw [← hW3]; exact ((Row.new w _ _).alloc _).alloc _)
  have L3 := hide (show Row W3 (w.heap.size + 1) 25 [.slice AL n2 cL] by rw [← hW3]; exact ((Row.new _ _ _).at_ (by simp)).alloc _)
  have R3 := hide (show Row W3 (w.heap.size + 1 + 1) 25 [.slice none 0 0] by rw [← hW3]; exact (Row.new _ _ _).at_ (by simp))
  have B3 := hide (show Below w.heap.size w W3 by rw [← hW3]; exact below3 w _ _ _)
  have hs3 : W3.heap.size = w.heap.size + 3 := by rw [← hW3]; simp
  obtain ⟨W5, hW5⟩ : ∃ W, (W3.alloc (.cells (nils n2).toArray 42)).alloc (.cells #[.slice (some ⟨w.heap.size + 3, 0, none⟩) n2 n2] 25) = W := ⟨_, rfl⟩
  have I5 := hide (show RsI w P A1 n1 c1 A2 n2 c2 AL cL (nils n2) (stI l L 0 0) W5 by
    rw [stI_start, hlen, ← hW5]
    exact ⟨(F3.out.alloc _).alloc _, (L3.out.alloc _).alloc _, (R3.out.alloc _).alloc _, (Anw.make ((Row.new W3 _ _).at_ hs3) (by omega)).below (below1 _ _), (Row.new _ _ _).at_ (by simp [hs3]), (B3.out.alloc B3.out.size _).alloc (Nat.le_trans B3.out.size (by simp)) _⟩)
  have HW5 := hide hW5
  have HW3 := hide hW3
  have HS3 := hide hs3
  clear hW3 hs3 hW5
  go_enter Tryd.func37, Tryd.ntmps37
  go_upto_region 1 with (fail)
  rw [HW3.out]
  have q2 := F3.out.cell (k := 2) rfl
  clear HW3
  go_upto_region 2 with (fail)
  rw [HS3.out, HW5.out]
  clear q2 hmk HW5 HS3 F3 L3 R3 B3
  go_wp2_with fail
  go_loopw [6] (fun s6 wr => ∃ (k : Nat) (vs : List Value), s6 = .int .i64 (k : Int) ∧ k ≤ n2 ∧ Hid (RsI w P A1 n1 c1 A2 n2 c2 AL cL vs (stI l L k 0) wr)) (fun s6 _ => n2 - (intOf s6).toNat)
  case atStart => exact ⟨0, _, rfl, by omega, I5⟩
  case round =>
    obtain ⟨k, vs, rfl, hkn, hI⟩ := hrel
    clear I5
    have q0 := hI.out.f.cell (k := 0) rfl
    have q1 := hI.out.f.cell (k := 1) rfl
    have q2 := hI.out.f.cell (k := 2) rfl
    by_cases hlt : k < n2
    · have cn := rnext_any (P := P) (A1 := A1) (n1 := n1) (c1 := c1) (c2 := c2) (k : Int) wr (hide (hC.out.below hI.out.b)) hok.out.flow
      rw [sucZ_nat] at cn
      have hXS := hide (fun (j : Nat) (h : j ∈ suc l k) => suc_lt hok.out.flow h)
      have hX2 := hide (suc_len l k)
      have hNX := hide (stI_next l L k)
      obtain ⟨xs, hxs⟩ : ∃ xs, suc l k = xs := ⟨_, rfl⟩
      rw [hxs] at cn hXS hX2 hNX
      have HXS := hide hxs
      have HSB := hide hI.out.b.size
      have hk0 : (0 : Int) ≤ (k : Int) := by omega
      have hkn : (k : Int) < (n2 : Int) := by omega
      clear hxs
      go_wp2_with fail
      refine cn.mono ?_
      rintro e w5 ⟨A5, c5, rfl, ho5, hb5⟩
      have I5 := hide (hI.out.call hb5)
      have N5 := hide (show w5.ownsRow w.heap.size 3 1 (.slice A5 xs.length c5) xs.length (cellsI (toI xs)) by rw [toI_len] at ho5; exact own_lower ho5 HSB.out)
      rw [toI_len]
      clear hb5 ho5 cn q0 q1 q2 hI HSB
      go_wp2_with fail
      go_loopw [8] (fun s8 wr => ∃ (i : Nat) (vs : List Value), s8 = .int .i64 (i : Int) ∧ i ≤ xs.length ∧ Hid (RsI w P A1 n1 c1 A2 n2 c2 AL cL vs (stI l L k i) wr) ∧
        Hid (wr.ownsRow w.heap.size 3 1 (.slice A5 xs.length c5) xs.length (cellsI (toI xs)))) (fun s8 _ => xs.length - (intOf s8).toNat)
      case atStart => exact ⟨0, vs, rfl, by omega, I5, N5⟩
      case round =>
        obtain ⟨i, vs2, rfl, hix, hI, hN⟩ := hrel
        clear I5 N5
        have hx2 : xs.length ≤ 2 := hX2.out
        by_cases hlt2 : i < xs.length
        · obtain ⟨g5, c5', he5, -, -, -, -⟩ := own_block hN.out (by omega)
          injection he5 with he5 _ he5c
          subst he5 he5c
          have hjx := List.getElem?_eq_getElem hlt2
          have hjm := List.getElem_mem hlt2
          have x0 : wr.cell? ⟨g5, i, none⟩ = some (.int .i64 ((xs[i] : Nat) : Int)) := by
            rw [hN.out.cellAt i (by omega), cellsI, List.getElem?_map, toI_get, hjx]; rfl
          have hjl : xs[i] < l.length := hXS.out xs[i] hjm
          have HJ := hide (show (suc l k)[i]? = some xs[i] by rw [HXS.out]; exact hjx)
          generalize xs[i] = j at x0 hjl HJ
          obtain ⟨x, hx⟩ : ∃ x, l[j]? = some x := ⟨_, List.getElem?_eq_getElem hjl⟩
          obtain ⟨_, hxe⟩ := List.getElem?_eq_some_iff.1 hx
          obtain ⟨b2, o2, rfl, hb2, y0, y1, y2, y3, y4⟩ := ins_at hC.out.see hjl
          rw [hxe] at y0 y1 y2 y3 y4
          obtain ⟨b3, o3, A3, c3, rfl, hb3, y5, hl3, hn3⟩ := hL.out.at_ (i := j) (by omega)
          obtain ⟨zj, hzj⟩ : ∃ z, L.getD j [] = z := ⟨_, rfl⟩
          have hzA : Asc zj := by rw [← hzj]; exact hLI.out.asc j
          have hKJ : inK l L j = inX x zj := by rw [inK_some hx, hzj]
          rw [hzj] at y5 hl3
          have hkl : k < l.length := by omega
          obtain ⟨Ak, ck, hvk, z0, hlk, hnk, -⟩ := hI.out.o.vat (stI_at (L := L) i hkl)
          have HUA := hide (uniL_asc l L ((suc l k).take i))
          have HVA := hide (inK_asc (l := l) (L := L) hLI.out.asc j)
          have HST := hide (stI_step (L := L) hkl HJ.out)
          have CI := hide (fun (vs' : List Value) (zss' : List (List Int)) (V : World) (h : Hid (RsI w P A1 n1 c1 (some ⟨b2, o2, none⟩) n2 c2 (some ⟨b3, o3, none⟩) cL vs' zss' V)) =>
            (show Calls Tryd.prog 50 #[iv x.op x.a x.b x.c x.imm, .slice A3 zj.length c3] V (OutPost (inK l L j) V) by
              have q := rin_use x.op x.a x.b x.c x.imm A3 zj.length c3 zj V (hide (hok.out.usAsc hx)) (hide (hl3.below h.out.b)) (hide hzA) (hide hn3)
              rw [hKJ]
              exact q))
          obtain ⟨u, hu⟩ : ∃ u, uniL l L ((suc l k).take i) = u := ⟨_, rfl⟩
          obtain ⟨v, hv⟩ : ∃ v, inK l L j = v := ⟨_, rfl⟩
          rw [hu] at HUA hlk hvk z0 HST
          rw [hv] at HVA CI HST
          have CU := hide (fun (V : World) (A' : Option Addr) (c' : Nat) (h : Hid (Lst V A' v.length v)) (hb : Below wr.heap.size wr V) =>
            (s_union ck c' (hide (hlk.below hb)) h (hide hnk) HUA HVA (hide rfl) : Calls Tryd.prog 20 #[.slice Ak u.length ck, .slice A' v.length c'] V (OutPost (unionL u v) V)))
          have HRA := hide (IntOk.asc (unionL_asc (b := v) HUA.out))
          obtain ⟨r, hr⟩ : ∃ r, unionL u v = r := ⟨_, rfl⟩
          rw [hr] at HST CU HRA
          have HPT := hide (fun (V : World) (A' : Option Addr) (c' : Nat) (h : Hid (RsI w P A1 n1 c1 (some ⟨b2, o2, none⟩) n2 c2 (some ⟨b3, o3, none⟩) cL vs2 (stI l L k i) V)) (ho : V.ownsRow w.heap.size 3 1 (.slice A' r.length c') r.length (cellsI r)) =>
            (show RsI w P A1 n1 c1 (some ⟨b2, o2, none⟩) n2 c2 (some ⟨b3, o3, none⟩) cL (vs2.set k (.slice A' r.length c')) (stI l L k (i + 1)) (V.setCell ⟨w.heap.size + 3, k, none⟩ (.slice A' r.length c')) by
              rw [HST.out]; exact h.out.put (by rw [stI_len]; exact hkl) ho HRA.out))
          have HZ := hide (fun (V : World) (h : Hid (RsI w P A1 n1 c1 (some ⟨b2, o2, none⟩) n2 c2 (some ⟨b3, o3, none⟩) cL vs2 (stI l L k i) V)) => (show V.cell? ⟨w.heap.size + 3, k, none⟩ = some (.slice Ak u.length ck) ∧ V.frozen? ⟨w.heap.size + 3, k, none⟩ = false from
            ⟨h.out.o.row.cell (by rw [List.append_nil]; exact hvk), h.out.o.free k⟩))
          have KS := hide (fun (V : World) (h : Hid (RsI w P A1 n1 c1 (some ⟨b2, o2, none⟩) n2 c2 (some ⟨b3, o3, none⟩) cL vs2 (stI l L k i) V)) =>
            (⟨h.out.f.cell (k := 2) rfl, h.out.l.cell (k := 0) rfl, h.out.x.cell (k := 0) rfl, keep_cellB h.out.b y0, keep_cellB h.out.b y1, keep_cellB h.out.b y2, keep_cellB h.out.b y3, keep_cellB h.out.b y4, keep_cellB h.out.b y5, (HZ.out V h).1⟩ :
            _ ∧ _ ∧ _ ∧ _ ∧ _ ∧ _ ∧ _ ∧ _ ∧ _ ∧ _))
          have HSZ := hide hI.out.b.size
          have J0 := hide (hI.out.call (Below.refl _ _).drew)
          have HS0 := KS.out _ J0
          have B0 := hide (show Below wr.heap.size wr wr.drew from (Below.refl _ _).drew)
          have hi0 : (0 : Int) ≤ (i : Int) := by omega
          have hin : (i : Int) < (xs.length : Int) := by omega
          have hj0 : (0 : Int) ≤ (j : Int) := by omega
          have hjn : (j : Int) < (n2 : Int) := by omega
          clear hjx hjm hxe hzj hzA hKJ hu hv hr hx y0 y1 y2 y3 y4 y5 hl3 hn3 hb2 hb3 hvk hlk hnk
          go_upto_region 10 with (fail)
          refine wp_region_lastH (S := (fun V => V.cell? ⟨w.heap.size, 2, none⟩ = some (.slice (some ⟨b2, o2, none⟩) n2 c2) ∧ V.cell? ⟨w.heap.size + 1, 0, none⟩ = some (.slice (some ⟨b3, o3, none⟩) n2 cL) ∧
              V.cell? ⟨w.heap.size + 3 + 1, 0, none⟩ = some (.slice (some ⟨w.heap.size + 3, 0, none⟩) n2 n2) ∧ V.cell? ⟨b2, o2 + j * 5, none⟩ = some (.int .i64 x.op) ∧ V.cell? ⟨b2, o2 + j * 5 + 1, none⟩ = some (.int .i64 x.a) ∧
              V.cell? ⟨b2, o2 + j * 5 + 2, none⟩ = some (.int .i64 x.b) ∧ V.cell? ⟨b2, o2 + j * 5 + 3, none⟩ = some (.int .i64 x.c) ∧ V.cell? ⟨b2, o2 + j * 5 + 4, none⟩ = some (.int .u64 x.imm) ∧ V.cell? ⟨b3, o3 + j, none⟩ = some (.slice A3 zj.length c3) ∧
              V.cell? ⟨w.heap.size + 3, k, none⟩ = some (.slice Ak u.length ck))) 21 (by kernel_rfl) rfl rfl (by kernel_rfl) ?_
          have hHeld := HS0
          refine wpAnyH_take (i := 0) (v := ?_) tk_0 (by kernel_rfl) (by kernel_rfl) (by kernel_rfl) (fun _ _ _ h => h) (Or.inl ⟨by rfl, ?_⟩) hHeld ?_
          rotate_left
          · intro V hSw
            try dsimp only at hSw
            go_simp
            all_goals with_reducible rfl
          try simp only [Act.put, List.setIfInBounds_toArray, List.set_cons_zero, List.set_cons_succ]
          refine wpAnyH_take (i := 1) (v := ?_) tk_1 (by kernel_rfl) (by kernel_rfl) (by kernel_rfl) (fun _ _ _ h => h) (Or.inl ⟨by rfl, ?_⟩) hHeld ?_
          rotate_left
          · intro V hSw
            try dsimp only at hSw
            go_simp
            all_goals with_reducible rfl
          try simp only [Act.put, List.setIfInBounds_toArray, List.set_cons_zero, List.set_cons_succ]
          refine wpAnyH_take (i := 2) (v := ?_) tk_2 (by kernel_rfl) (by kernel_rfl) (by kernel_rfl) (fun _ _ _ h => h) (Or.inl ⟨by rfl, ?_⟩) hHeld ?_
          rotate_left
          · intro V hSw
            try dsimp only at hSw
            go_simp
            all_goals with_reducible rfl
          try simp only [Act.put, List.setIfInBounds_toArray, List.set_cons_zero, List.set_cons_succ]
          refine wpAnyH_take (i := 3) (v := ?_) tk_3 (by kernel_rfl) (by kernel_rfl) (by kernel_rfl) (fun _ _ _ h => h) (Or.inl ⟨by rfl, ?_⟩) hHeld ?_
          rotate_left
          · intro V hSw
            try dsimp only at hSw
            go_simp
            all_goals with_reducible rfl
          try simp only [Act.put, List.setIfInBounds_toArray, List.set_cons_zero, List.set_cons_succ]
          refine wpAnyH_take (i := 4) (v := ?_) tk_4 (by kernel_rfl) (by kernel_rfl) (by kernel_rfl) (fun _ _ _ h => h) (Or.inl ⟨by rfl, ?_⟩) hHeld ?_
          rotate_left
          · intro V hSw
            try dsimp only at hSw
            go_simp
            all_goals with_reducible rfl
          try simp only [Act.put, List.setIfInBounds_toArray, List.set_cons_zero, List.set_cons_succ]
          refine wpAnyH_take (i := 5) (v := ?_) tk_5 (by kernel_rfl) (by kernel_rfl) (by kernel_rfl) (fun _ _ _ h => h) (Or.inl ⟨by rfl, ?_⟩) hHeld ?_
          rotate_left
          · intro V hSw
            try dsimp only at hSw
            go_simp
            all_goals with_reducible rfl
          try simp only [Act.put, List.setIfInBounds_toArray, List.set_cons_zero, List.set_cons_succ]
          refine wpAnyH_take (i := 6) (v := ?_) tk_6 (by kernel_rfl) (by kernel_rfl) (by kernel_rfl) (fun _ _ _ h => h) (Or.inl ⟨by rfl, ?_⟩) hHeld ?_
          rotate_left
          · intro V hSw
            try dsimp only at hSw
            go_simp
            all_goals with_reducible rfl
          try simp only [Act.put, List.setIfInBounds_toArray, List.set_cons_zero, List.set_cons_succ]
          refine wpAnyH_take (i := 7) (v := ?_) tk_7 (by kernel_rfl) (by kernel_rfl) (by kernel_rfl) (fun _ _ _ h => h) (Or.inl ⟨by rfl, ?_⟩) hHeld ?_
          rotate_left
          · intro V hSw
            try dsimp only at hSw
            go_simp
            all_goals with_reducible rfl
          try simp only [Act.put, List.setIfInBounds_toArray, List.set_cons_zero, List.set_cons_succ]
          refine wpAnyH_take (i := 8) (v := ?_) tk_8 (by kernel_rfl) (by kernel_rfl) (by kernel_rfl) (fun _ _ _ h => h) (Or.inl ⟨by rfl, ?_⟩) hHeld ?_
          rotate_left
          · intro V hSw
            try dsimp only at hSw
            go_simp
            all_goals with_reducible rfl
          try simp only [Act.put, List.setIfInBounds_toArray, List.set_cons_zero, List.set_cons_succ]
          refine wpAnyH_take (i := 9) (v := ?_) tk_9 (by kernel_rfl) (by kernel_rfl) (by kernel_rfl) (fun _ _ _ h => h) (Or.inl ⟨by rfl, ?_⟩) hHeld ?_
          rotate_left
          · intro V hSw
            try dsimp only at hSw
            go_simp
            all_goals with_reducible rfl
          try simp only [Act.put, List.setIfInBounds_toArray, List.set_cons_zero, List.set_cons_succ]
          refine wpAnyH_take (i := 10) (v := ?_) tk_10 (by kernel_rfl) (by kernel_rfl) (by kernel_rfl) (fun _ _ _ h => h) (Or.inl ⟨by rfl, ?_⟩) hHeld ?_
          rotate_left
          · intro V hSw
            try dsimp only at hSw
            go_simp
            all_goals with_reducible rfl
          try simp only [Act.put, List.setIfInBounds_toArray, List.set_cons_zero, List.set_cons_succ]
          refine wpAnyH_take (i := 11) (v := ?_) tk_11 (by kernel_rfl) (by kernel_rfl) (by kernel_rfl) (fun _ _ _ h => h) (Or.inl ⟨by rfl, ?_⟩) hHeld ?_
          rotate_left
          · intro V hSw
            try dsimp only at hSw
            go_simp
            all_goals with_reducible rfl
          try simp only [Act.put, List.setIfInBounds_toArray, List.set_cons_zero, List.set_cons_succ]
          refine wpAnyH_take (i := 12) (v := ?_) tk_12 (by kernel_rfl) (by kernel_rfl) (by kernel_rfl) (fun _ _ _ h => h) (Or.inl ⟨by rfl, ?_⟩) hHeld ?_
          rotate_left
          · intro V hSw
            try dsimp only at hSw
            go_simp
            all_goals with_reducible rfl
          try simp only [Act.put, List.setIfInBounds_toArray, List.set_cons_zero, List.set_cons_succ]
          refine wpAnyH_take (i := 13) (v := ?_) tk_13 (by kernel_rfl) (by kernel_rfl) (by kernel_rfl) (fun _ _ _ h => h) (Or.inl ⟨by rfl, ?_⟩) hHeld ?_
          rotate_left
          · intro V hSw
            try dsimp only at hSw
            go_simp
            all_goals with_reducible rfl
          try simp only [Act.put, List.setIfInBounds_toArray, List.set_cons_zero, List.set_cons_succ]
          refine wpAnyH_take (i := 14) (v := ?_) tk_14 (by kernel_rfl) (by kernel_rfl) (by kernel_rfl) (fun _ _ _ h => h) (Or.inl ⟨by rfl, ?_⟩) hHeld ?_
          rotate_left
          · intro V hSw
            try dsimp only at hSw
            go_simp
            all_goals with_reducible rfl
          try simp only [Act.put, List.setIfInBounds_toArray, List.set_cons_zero, List.set_cons_succ]
          refine wpAnyH_take (i := 15) (v := ?_) tk_15 (by kernel_rfl) (by kernel_rfl) (by kernel_rfl) (fun _ _ _ h => h) (Or.inl ⟨by rfl, ?_⟩) hHeld ?_
          rotate_left
          · intro V hSw
            try dsimp only at hSw
            go_simp
            all_goals with_reducible rfl
          try simp only [Act.put, List.setIfInBounds_toArray, List.set_cons_zero, List.set_cons_succ]
          refine wpAnyH_take (i := 16) (v := ?_) tk_16 (by kernel_rfl) (by kernel_rfl) (by kernel_rfl) (fun _ _ _ h => h) (Or.inl ⟨by rfl, ?_⟩) hHeld ?_
          rotate_left
          · intro V hSw
            try dsimp only at hSw
            go_simp
            all_goals with_reducible rfl
          try simp only [Act.put, List.setIfInBounds_toArray, List.set_cons_zero, List.set_cons_succ]
          refine wpAnyH_take (i := 17) (v := ?_) tk_17 (by kernel_rfl) (by kernel_rfl) (by kernel_rfl) (fun _ _ _ h => h) (Or.inl ⟨by rfl, ?_⟩) hHeld ?_
          rotate_left
          · intro V hSw
            try dsimp only at hSw
            go_simp
            all_goals with_reducible rfl
          try simp only [Act.put, List.setIfInBounds_toArray, List.set_cons_zero, List.set_cons_succ]
          refine wpAnyH_ready (rs := [18]) (by kernel_rfl) (by simp) ?_
          refine AllReadyH.cons tk_18 (fun K hK => ?_) AllReadyH.nil
          go_simp
          go_at_call 50
          with_reducible refine Calls.mono (CI.out _ _ _ J0) ?_
          intro e w5 h5
          obtain ⟨A5', c5', rfl, hl5, hn5, hb5⟩ := h5.open HVA
          have J5 := hide (J0.out.call hb5)
          have HS5 := KS.out _ J5
          have B5 := hide (below_call B0.out hb5)
          clear h5 hb5
          refine hK.out _ _ HS5 (fun hHeld => ?_)
          clear hK K
          try simp only [Act.put, List.setIfInBounds_toArray, List.set_cons_zero, List.set_cons_succ]
          refine wpAnyH_ready (rs := [19]) (by kernel_rfl) (by simp) ?_
          refine AllReadyH.cons tk_19 (fun K hK => ?_) AllReadyH.nil
          go_simp
          go_at_call 20
          with_reducible refine Calls.mono (CU.out _ _ _ hl5 B5.out) ?_
          intro e w6 h6
          unfold OutPost at h6
          obtain ⟨A6, c6, rfl, ho6, hb6⟩ := h6
          have J6 := hide (J5.out.call hb6)
          have HS6 := KS.out _ J6
          obtain ⟨z6, f6⟩ := HZ.out _ J6
          have x6 := J6.out.x.cell (k := 0) rfl
          have J7 := hide (HPT.out _ _ _ J6 (own_lower ho6 (Nat.le_trans HSZ.out B5.out.size)))
          have HN := hide ((own_below (own_below hN.out B5.out) hb6).kept (fgrown_set _ (w.heap.size + 3) k (.slice A6 r.length c6)) (fown_apart (own_below (own_below hN.out B5.out) hb6) J6.out.o.row fty_ne))
          clear ho6 hb6
          refine hK.out _ _ HS6 (fun hHeld => ?_)
          clear hK K
          try simp only [Act.put, List.setIfInBounds_toArray, List.set_cons_zero, List.set_cons_succ]
          refine wpAnyH_take (i := 20) (v := ?_) tk_20 (by kernel_rfl) (by kernel_rfl) (by kernel_rfl) (fun _ _ _ h => h) (Or.inl ⟨by rfl, ?_⟩) hHeld ?_
          rotate_left
          · intro V hSw
            try dsimp only at hSw
            go_simp
            all_goals with_reducible rfl
          try simp only [Act.put, List.setIfInBounds_toArray, List.set_cons_zero, List.set_cons_succ]
          refine wpAnyH_done (by kernel_rfl) ?_ _
          unfold LastQ
          clear HS0 HS5 HS6 CI CU HZ KS J0 J5 HPT HST HUA HVA HRA hI hN x0
          go_wp2_with fail
          go_roundw
          case rel => exact ⟨i + 1, _, by go_num, by omega, J7, HN⟩
          case measure => simp [intOf]; omega
        · obtain rfl : i = xs.length := by omega
          have I8 := hide (show RsI w P A1 n1 c1 A2 n2 c2 AL cL vs2 (stI l L (k + 1) 0) wr by rw [← hNX.out]; exact hI.out)
          clear hI hN
          go_wp2_with fail
          go_roundw
          case rel => exact ⟨k + 1, vs2, by go_num, by omega, I8⟩
          case measure => simp [intOf]; omega
    · obtain rfl : k = n2 := by omega
      have HE := hide (show stI l L k 0 = stepL l L by rw [← hlen]; exact stI_end l L)
      have I9 := hide (show RsI w P A1 n1 c1 A2 k c2 AL cL vs (stepL l L) wr by rw [← HE.out]; exact hI.out)
      have x0 := I9.out.x.cell (k := 0) rfl
      have x1 := I9.out.res.cell (k := 0) rfl
      have x2 := I9.out.res.free 0
      obtain ⟨W9, hW9⟩ : ∃ W, wr.setCell ⟨w.heap.size + 1 + 1, 0, none⟩ (.slice (some ⟨w.heap.size + 3, 0, none⟩) k k) = W := ⟨_, rfl⟩
      have HF := hide (show LvPost (stepL l L) w (.returned (.agg #[.slice (some ⟨w.heap.size + 3, 0, none⟩) k k])) W9 from
        ⟨w.heap.size + 3, k, vs, [], by rw [stepL_len, hlen], by rw [← hW9]; exact I9.out.o.farc (p := ⟨w.heap.size + 1 + 1, 0, none⟩) (ty := 25) I9.out.res rfl (by decide) (by decide), by rw [← hW9]; exact I9.out.b.setCell (p := ⟨w.heap.size + 1 + 1, 0, none⟩) (by simp; omega) _⟩)
      have R9 := I9.out.res.set_ 0 (.slice (some ⟨w.heap.size + 3, 0, none⟩) k k)
      rw [hW9] at R9
      have HW9 := hide hW9
      have hld := load_row (agg_live (w := W9)) (size_live (w := W9)) rfl R9
      clear hW9 R9 hI
      go_wp2_with fail
      rw [HW9.out]
      exact bodyPost_ret (results_cell1 (fn := Tryd.f37) (t := 4) (T := 25) rfl _ W9 _ _ _ rfl hld) rfl HF.out
end
end Go.Proofs.YtidlnecgfgnllaaDoor
end
