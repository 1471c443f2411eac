import Derived.Test.YtjbgepjdohfhkaaDoorMAlin
import Derived.Test.YtjbgepjdohfhkaaDoorMFnx
import Derived.Test.YtjbgepjdohfhkaaDoorMFrn
set_option linter.unusedVariables false
set_option linter.unusedSimpArgs false
section
/-
  The contract of liveness.Step: one step of the equations. Conditions: those of the types; the function is right; the annotation has a set of slots for each instruction; the table of TrailingZeros64 lies as its initialiser lays it.
-/
namespace Go.Proofs.YtjbgepjdohfhkaaDoor
open Go.RowKit

/-- A store into another row of slices. -/
theorem Anw.other {w : World} {base g go : Nat} {vs sp cs : List Value} {zss : List (List Int)} (h : Anw w base g vs sp zss) (hr : Row w go 42 cs) (hne : g ≠ go) (k : Nat) (u : Value) : Anw (w.setCell ⟨go, k, none⟩ u) base g vs sp zss :=
  ⟨h.len, h.row.far (p := ⟨go, k, none⟩) hne _, h.gb, fun i v zs hv hz => (h.own i v zs hv hz).kept (fgrown_set w go k u) (fown_apart (h.own i v zs hv hz) hr fty_ne), h.rng⟩
structure LtI (w : World) (P : Int) (A1 : Option Addr) (n1 c1 : Nat) (A2 : Option Addr) (n2 c2 gi go : Nat) (vi : List Value) (IL : List (List Int)) (vs : List Value) (zss : List (List Int)) (wr : World) : Prop where
  f : Row wr w.heap.size 27 [.int .i64 P, .slice A1 n1 c1, .slice A2 n2 c2]
  res : Row wr (w.heap.size + 1 + 1) 30 [.slice none 0 0]
  oi : Anw wr w.heap.size gi vi [] IL
  o : Anw wr w.heap.size go vs [] zss
  b : Below w.heap.size w wr
  gg : gi ≠ go
  gs : w.heap.size < go
section
variable {P : Int} {A1 : Option Addr} {n1 c1 : Nat} {A2 : Option Addr} {n2 c2 gi go : Nat} {AL : Option Addr} {cL : Nat} {l : List Ins} {L IL zss : List (List Int)} {M : Nat} {w wr w2 : World} {vi vs : List Value}
theorem LtI.call (h : LtI w P A1 n1 c1 A2 n2 c2 gi go vi IL vs zss wr) (hb : Below wr.heap.size wr w2) : LtI w P A1 n1 c1 A2 n2 c2 gi go vi IL vs zss w2 := ⟨h.f.call hb, h.res.call hb, h.oi.below hb, h.o.below hb, below_call h.b hb, h.gg, h.gs⟩
theorem LtI.put (h : LtI w P A1 n1 c1 A2 n2 c2 gi go vi IL vs zss wr) {j : Nat} {v : Value} {zs : List Int} (hj : j < zss.length) (hv : wr.ownsRow w.heap.size 3 1 v zs.length (cellsI zs)) (hr : IntOk zs) :
    LtI w P A1 n1 c1 A2 n2 c2 gi go vi IL (vs.set j v) (zss.set j zs) (wr.setCell ⟨go, j, none⟩ v) :=
  ⟨h.f.far (p := ⟨go, j, none⟩) (h.f.ne_ h.o.row (by decide)) _, h.res.far (p := ⟨go, j, none⟩) (h.res.ne_ h.o.row (by decide)) _, h.oi.other h.o.row h.gg j v, h.o.put hj hv hr, h.b.setCell (p := ⟨go, j, none⟩) h.o.gb _, h.gg, h.gs⟩
set_option maxRecDepth 100000 in
set_option maxHeartbeats 4000000 in
theorem lstep_any (w : World) (hC : Hid (CdAt w A2 n2 l)) (hok : Hid (LvOk l M)) (hL : Hid (Ann w AL n2 L)) (hLI : Hid (LvIn n2 M L)) (hT : Hid (Tab w)) :
    Calls Tryd.prog 11 #[fv P A1 n1 c1 A2 n2 c2, .agg #[.slice AL n2 cL]] w (LvPost (stepL l L) w) := by
  obtain ⟨j0, ji, jz0, jz1, jz2⟩ := info_parts infoS
  have hlen := hC.out.len
  have hn2 := hC.out.few
  have hmk := fmade2 (P := Tryd.prog) Tryd.underlying28 ji jz0 jz1 (by omega) rfl n2 (by omega) (L := nils n2) rfl
  obtain ⟨W3, hW3⟩ : ∃ W, ((w.alloc (.cells #[.int .i64 P, .slice A1 n1 c1, .slice A2 n2 c2] 27)).alloc (.cells #[.slice AL n2 cL] 30)).alloc (.cells #[.slice none 0 0] 30) = W := ⟨_, rfl⟩
  have F3 := hide (show Row W3 w.heap.size 27 [.int .i64 P, .slice A1 n1 c1, .slice A2 n2 c2] by rw [← hW3]; exact ((Row.new w _ _).alloc _).alloc _)
  have L3 := hide (show Row W3 (w.heap.size + 1) 30 [.slice AL n2 cL] by rw [← hW3]; exact ((Row.new _ _ _).at_ (by simp)).alloc _)
  have R3 := hide (show Row W3 (w.heap.size + 1 + 1) 30 [.slice none 0 0] by rw [← hW3]; exact (Row.new _ _ _).at_ (by simp))
  have B3 := hide (show Below w.heap.size w W3 by rw [← hW3]; exact below3 w _ _ _)
  have hs3 : W3.heap.size = w.heap.size + 3 := by rw [← hW3]; simp
  have HW3 := hide hW3
  have HS3 := hide hs3
  have q0 := F3.out.cell (k := 0) rfl
  have q1 := F3.out.cell (k := 1) rfl
  have q2 := F3.out.cell (k := 2) rfl
  have q3 := L3.out.cell (k := 0) rfl
  have ci := lins_any (P := P) (A1 := A1) (n1 := n1) (c1 := c1) (c2 := c2) (cL := cL) W3 (hide (hC.out.below B3.out)) hok (hide (hL.out.below B3.out)) hLI (hide (hT.out.below B3.out))
  unfold AnPost at ci
  rw [insL_len, hlen] at ci
  clear hW3 hs3
  go_enter Tryd.func11, Tryd.ntmps11
  go_upto_region 1 with (fail)
  rw [HW3.out]
  clear HW3
  go_wp2_with fail
  refine ci.mono ?_
  rintro e w4 ⟨gi, vi, rfl, hoi, hb4⟩
  obtain ⟨W5, hW5⟩ : ∃ W, w4.alloc (.cells (nils n2).toArray 42) = W := ⟨_, rfl⟩
  have hb5 : Below w4.heap.size w4 W5 := by rw [← hW5]; exact below1 _ _
  obtain ⟨go, hgo⟩ : ∃ go, w4.heap.size = go := ⟨_, rfl⟩
  have F4 := hide (F3.out.call hb4)
  have I5 := hide (show LtI w P A1 n1 c1 A2 n2 c2 gi go vi (insL l L) (nils n2) (stI l L 0 0) W5 from
    ⟨(F3.out.call hb4).call hb5, (R3.out.call hb4).call hb5, (hoi.below hb5).lower (by have := HS3.out; omega), by rw [stI_start, hlen, ← hW5, ← hgo]; exact Anw.make (Row.new w4 _ _) (by have := B3.out.size; have := hb4.size; omega), below_call (below_call B3.out hb4) hb5, by have := hoi.row.lt; omega, by have := HS3.out; have := hb4.size; omega⟩)
  have HGO := hide hgo
  have HW5 := hide hW5
  clear hb4 hb5 hoi ci q0 q1 q2 q3 F3 L3 R3 B3 hgo hW5 HS3
  have q2 := F4.out.cell (k := 2) rfl
  go_upto_region 3 with (fail)
  rw [HW5.out, HGO.out]
  clear q2 hmk HW5 HGO F4
  go_wp2_with fail
  go_loopw [7, 19] (fun s7 s19 wr => ∃ (k : Nat) (vs : List Value), s19 = .int .i64 (k : Int) ∧ k ≤ n2 ∧ Hid (LtI w P A1 n1 c1 A2 n2 c2 gi go vi (insL l L) vs (stI l L k 0) wr)) (fun _ s19 _ => n2 - (intOf s19).toNat)
  case atStart => exact ⟨0, _, rfl, by omega, I5⟩
  case round =>
    obtain ⟨k, vs, rfl, hkn, hI⟩ := hrel
    clear I5
    by_cases hlt : k < n2
    · have q0 := hI.out.f.cell (k := 0) rfl
      have q1 := hI.out.f.cell (k := 1) rfl
      have q2 := hI.out.f.cell (k := 2) rfl
      have cn := fnext_any (P := P) (A1 := A1) (n1 := n1) (c1 := c1) (c2 := c2) (k : Int) wr (hide (hC.out.below hI.out.b)) hok.out.flow
      rw [sucZ_nat] at cn
      have hXS := hide (fun (j : Nat) (h : j ∈ suc l k) => suc_lt hok.out.flow h)
      have hX2 := hide (suc_len l k)
      have hNX := hide (stI_next l L k)
      obtain ⟨xs, hxs⟩ : ∃ xs, suc l k = xs := ⟨_, rfl⟩
      rw [hxs] at cn hXS hX2 hNX
      have HXS := hide hxs
      have HSB := hide hI.out.b.size
      have hk0 : (0 : Int) ≤ (k : Int) := by omega
      have hkn : (k : Int) < (n2 : Int) := by omega
      clear hxs
      go_wp2_with fail
      refine cn.mono ?_
      rintro e w5 ⟨A5, c5, rfl, ho5, hb5⟩
      have I5 := hide (hI.out.call hb5)
      have N5 := hide (show w5.ownsRow w.heap.size 3 1 (.slice A5 xs.length c5) xs.length (cellsI (toI xs)) by rw [toI_len] at ho5; exact own_lower ho5 HSB.out)
      rw [toI_len]
      clear hb5 ho5 cn q0 q1 q2 hI HSB
      go_wp2_with fail
      go_loopw [9, 26] (fun s9 s26 wr => ∃ (i : Nat) (vs : List Value), s26 = .int .i64 (i : Int) ∧ i ≤ xs.length ∧ Hid (LtI w P A1 n1 c1 A2 n2 c2 gi go vi (insL l L) vs (stI l L k i) wr) ∧
        Hid (wr.ownsRow w.heap.size 3 1 (.slice A5 xs.length c5) xs.length (cellsI (toI xs)))) (fun _ s26 _ => xs.length - (intOf s26).toNat)
      case atStart => exact ⟨0, vs, rfl, by omega, I5, N5⟩
      case round =>
        obtain ⟨i, vs2, rfl, hix, hI, hN⟩ := hrel
        clear I5 N5
        have hx2 : xs.length ≤ 2 := hX2.out
        by_cases hlt2 : i < xs.length
        · obtain ⟨g5, c5', he5, -, -, -, -⟩ := own_block hN.out (by omega)
          injection he5 with he5 _ he5c
          subst he5 he5c
          have hjx := List.getElem?_eq_getElem hlt2
          have hjm := List.getElem_mem hlt2
          have x0 : wr.cell? ⟨g5, i, none⟩ = some (.int .i64 ((xs[i] : Nat) : Int)) := by
            rw [hN.out.cellAt i (by omega), cellsI, List.getElem?_map, toI_get, hjx]; rfl
          have hjl : xs[i] < l.length := hXS.out xs[i] hjm
          have HJ := hide (show (suc l k)[i]? = some xs[i] by rw [HXS.out]; exact hjx)
          generalize xs[i] = j at x0 hjl HJ
          have hkl : k < l.length := by omega
          obtain ⟨Ak, ck, hvk, z0, hlk, hnk, -⟩ := hI.out.o.vat (stI_at (L := L) i hkl)
          obtain ⟨Aj, cj, hvj, zj0, hlj, hnj, -⟩ := hI.out.oi.vat (insL_at l L hjl)
          have HUA := hide (uniL_asc l L ((suc l k).take i))
          have HVA := hide (inK_asc (l := l) (L := L) hLI.out.asc j)
          have HST := hide (stI_step (L := L) hkl HJ.out)
          have HAL := hide (show k < (stI l L k i).length by rw [stI_len]; exact hkl)
          obtain ⟨u, hu⟩ : ∃ u, uniL l L ((suc l k).take i) = u := ⟨_, rfl⟩
          obtain ⟨v, hv⟩ : ∃ v, inK l L j = v := ⟨_, rfl⟩
          rw [hu] at HUA hlk hvk z0 HST
          rw [hv] at HVA HST hlj hvj zj0
          have CU := hide (fun (V : World) (hb : Below wr.heap.size wr V) =>
            (t_union ck cj (hide (hlk.below hb)) (hide (hlj.below hb)) HUA HVA (hide (hT.out.below (below_call hI.out.b hb))) (hide rfl) : Calls Tryd.prog 25 #[.slice Ak u.length ck, .slice Aj v.length cj] V (OutPost (unionL u v) V)))
          have HRA := hide (IntOk.asc (unionL_asc (b := v) HUA.out))
          obtain ⟨r, hr⟩ : ∃ r, unionL u v = r := ⟨_, rfl⟩
          rw [hr] at HST CU HRA
          have HPT := hide (fun (V : World) (A' : Option Addr) (c' : Nat) (h : Hid (LtI w P A1 n1 c1 A2 n2 c2 gi go vi (insL l L) vs2 (stI l L k i) V)) (ho : V.ownsRow w.heap.size 3 1 (.slice A' r.length c') r.length (cellsI r)) =>
            (show LtI w P A1 n1 c1 A2 n2 c2 gi go vi (insL l L) (vs2.set k (.slice A' r.length c')) (stI l L k (i + 1)) (V.setCell ⟨go, k, none⟩ (.slice A' r.length c')) by
              rw [HST.out]; exact h.out.put HAL.out ho HRA.out))
          have HZ := hide (fun (V : World) (h : Hid (LtI w P A1 n1 c1 A2 n2 c2 gi go vi (insL l L) vs2 (stI l L k i) V)) => (show (V.cell? ⟨go, k, none⟩ = some (.slice Ak u.length ck) ∧ V.frozen? ⟨go, k, none⟩ = false) ∧ V.cell? ⟨gi, j, none⟩ = some (.slice Aj v.length cj) from
            ⟨⟨h.out.o.row.cell (by rw [List.append_nil]; exact hvk), h.out.o.free k⟩, h.out.oi.row.cell (by rw [List.append_nil]; exact hvj)⟩))
          have KS := hide (fun (V : World) (h : Hid (LtI w P A1 n1 c1 A2 n2 c2 gi go vi (insL l L) vs2 (stI l L k i) V)) => (⟨(HZ.out V h).1.1, (HZ.out V h).2⟩ : _ ∧ _))
          have HSZ := hide hI.out.b.size
          have J0 := hide (hI.out.call (Below.refl _ _).drew)
          have HS0 := KS.out _ J0
          have B0 := hide (show Below wr.heap.size wr wr.drew from (Below.refl _ _).drew)
          have hi0 : (0 : Int) ≤ (i : Int) := by omega
          have hin : (i : Int) < (xs.length : Int) := by omega
          have hj0 : (0 : Int) ≤ (j : Int) := by omega
          have hjn : (j : Int) < (n2 : Int) := by omega
          clear hjx hjm hu hv hr hvk hlk hnk hvj hlj hnj
          go_upto_region 9 with (fail)
          refine wp_region_lastH (S := (fun V => V.cell? ⟨go, k, none⟩ = some (.slice Ak u.length ck) ∧ V.cell? ⟨gi, j, none⟩ = some (.slice Aj v.length cj))) 12 (by kernel_rfl) rfl rfl (by kernel_rfl) ?_
          have hHeld := HS0
          refine wpAnyH_take (i := 0) (v := ?_) tk_0 (by kernel_rfl) (by kernel_rfl) (by kernel_rfl) (fun _ _ _ h => h) (Or.inl ⟨by rfl, ?_⟩) hHeld ?_
          rotate_left
          · intro V hSw
            try dsimp only at hSw
            go_simp
            all_goals with_reducible rfl
          try simp only [Act.put, List.setIfInBounds_toArray, List.set_cons_zero, List.set_cons_succ]
          refine wpAnyH_take (i := 1) (v := ?_) tk_1 (by kernel_rfl) (by kernel_rfl) (by kernel_rfl) (fun _ _ _ h => h) (Or.inl ⟨by rfl, ?_⟩) hHeld ?_
          rotate_left
          · intro V hSw
            try dsimp only at hSw
            go_simp
            all_goals with_reducible rfl
          try simp only [Act.put, List.setIfInBounds_toArray, List.set_cons_zero, List.set_cons_succ]
          refine wpAnyH_take (i := 2) (v := ?_) tk_2 (by kernel_rfl) (by kernel_rfl) (by kernel_rfl) (fun _ _ _ h => h) (Or.inl ⟨by rfl, ?_⟩) hHeld ?_
          rotate_left
          · intro V hSw
            try dsimp only at hSw
            go_simp
            all_goals with_reducible rfl
          try simp only [Act.put, List.setIfInBounds_toArray, List.set_cons_zero, List.set_cons_succ]
          refine wpAnyH_take (i := 3) (v := ?_) tk_3 (by kernel_rfl) (by kernel_rfl) (by kernel_rfl) (fun _ _ _ h => h) (Or.inl ⟨by rfl, ?_⟩) hHeld ?_
          rotate_left
          · intro V hSw
            try dsimp only at hSw
            go_simp
            all_goals with_reducible rfl
          try simp only [Act.put, List.setIfInBounds_toArray, List.set_cons_zero, List.set_cons_succ]
          refine wpAnyH_take (i := 4) (v := ?_) tk_4 (by kernel_rfl) (by kernel_rfl) (by kernel_rfl) (fun _ _ _ h => h) (Or.inl ⟨by rfl, ?_⟩) hHeld ?_
          rotate_left
          · intro V hSw
            try dsimp only at hSw
            go_simp
            all_goals with_reducible rfl
          try simp only [Act.put, List.setIfInBounds_toArray, List.set_cons_zero, List.set_cons_succ]
          refine wpAnyH_take (i := 5) (v := ?_) tk_5 (by kernel_rfl) (by kernel_rfl) (by kernel_rfl) (fun _ _ _ h => h) (Or.inl ⟨by rfl, ?_⟩) hHeld ?_
          rotate_left
          · intro V hSw
            try dsimp only at hSw
            go_simp
            all_goals with_reducible rfl
          try simp only [Act.put, List.setIfInBounds_toArray, List.set_cons_zero, List.set_cons_succ]
          refine wpAnyH_take (i := 6) (v := ?_) tk_6 (by kernel_rfl) (by kernel_rfl) (by kernel_rfl) (fun _ _ _ h => h) (Or.inl ⟨by rfl, ?_⟩) hHeld ?_
          rotate_left
          · intro V hSw
            try dsimp only at hSw
            go_simp
            all_goals with_reducible rfl
          try simp only [Act.put, List.setIfInBounds_toArray, List.set_cons_zero, List.set_cons_succ]
          refine wpAnyH_take (i := 7) (v := ?_) tk_7 (by kernel_rfl) (by kernel_rfl) (by kernel_rfl) (fun _ _ _ h => h) (Or.inl ⟨by rfl, ?_⟩) hHeld ?_
          rotate_left
          · intro V hSw
            try dsimp only at hSw
            go_simp
            all_goals with_reducible rfl
          try simp only [Act.put, List.setIfInBounds_toArray, List.set_cons_zero, List.set_cons_succ]
          refine wpAnyH_take (i := 8) (v := ?_) tk_8 (by kernel_rfl) (by kernel_rfl) (by kernel_rfl) (fun _ _ _ h => h) (Or.inl ⟨by rfl, ?_⟩) hHeld ?_
          rotate_left
          · intro V hSw
            try dsimp only at hSw
            go_simp
            all_goals with_reducible rfl
          try simp only [Act.put, List.setIfInBounds_toArray, List.set_cons_zero, List.set_cons_succ]
          refine wpAnyH_take (i := 9) (v := ?_) tk_9 (by kernel_rfl) (by kernel_rfl) (by kernel_rfl) (fun _ _ _ h => h) (Or.inl ⟨by rfl, ?_⟩) hHeld ?_
          rotate_left
          · intro V hSw
            try dsimp only at hSw
            go_simp
            all_goals with_reducible rfl
          try simp only [Act.put, List.setIfInBounds_toArray, List.set_cons_zero, List.set_cons_succ]
          refine wpAnyH_ready (rs := [10]) (by kernel_rfl) (by simp) ?_
          refine AllReadyH.cons tk_10 (fun K hK => ?_) AllReadyH.nil
          go_simp
          go_at_call 25
          with_reducible refine Calls.mono (CU.out _ B0.out) ?_
          intro e w6 h6
          unfold OutPost at h6
          obtain ⟨A6, c6, rfl, ho6, hb6⟩ := h6
          have J6 := hide (J0.out.call hb6)
          have HS6 := KS.out _ J6
          obtain ⟨⟨z6, f6⟩, -⟩ := HZ.out _ J6
          have J7 := hide (HPT.out _ _ _ J6 (own_lower ho6 (Nat.le_trans HSZ.out B0.out.size)))
          have HN := hide ((own_below (own_below hN.out B0.out) hb6).kept (fgrown_set _ go k (.slice A6 r.length c6)) (fown_apart (own_below (own_below hN.out B0.out) hb6) J6.out.o.row fty_ne))
          clear ho6 hb6
          refine hK.out _ _ HS6 (fun hHeld => ?_)
          clear hK K
          try simp only [Act.put, List.setIfInBounds_toArray, List.set_cons_zero, List.set_cons_succ]
          refine wpAnyH_take (i := 11) (v := ?_) tk_11 (by kernel_rfl) (by kernel_rfl) (by kernel_rfl) (fun _ _ _ h => h) (Or.inl ⟨by rfl, ?_⟩) hHeld ?_
          rotate_left
          · intro V hSw
            try dsimp only at hSw
            go_simp
            all_goals with_reducible rfl
          try simp only [Act.put, List.setIfInBounds_toArray, List.set_cons_zero, List.set_cons_succ]
          refine wpAnyH_done (by kernel_rfl) ?_ _
          unfold LastQ
          clear HS0 HS6 CU HZ KS J0 HPT HST HUA HVA HRA HAL hI hN x0
          go_wp2_with fail
          go_roundw
          case rel => exact ⟨i + 1, _, by go_num, by omega, J7, HN⟩
          case measure => simp [intOf]; omega
        · obtain rfl : i = xs.length := by omega
          have I8 := hide (show LtI w P A1 n1 c1 A2 n2 c2 gi go vi (insL l L) vs2 (stI l L (k + 1) 0) wr by rw [← hNX.out]; exact hI.out)
          clear hI hN
          go_wp2_with fail
          go_roundw
          case rel => exact ⟨k + 1, vs2, by go_num, by omega, I8⟩
          case measure => simp [intOf]; omega
    · obtain rfl : k = n2 := by omega
      have HE := hide (show stI l L k 0 = stepL l L by rw [← hlen]; exact stI_end l L)
      have x1 := hI.out.res.cell (k := 0) rfl
      have x2 := hI.out.res.free 0
      obtain ⟨W9, hW9⟩ : ∃ W, wr.setCell ⟨w.heap.size + 1 + 1, 0, none⟩ (.slice (some ⟨go, 0, none⟩) k k) = W := ⟨_, rfl⟩
      have HF := hide (show LvPost (stepL l L) w (.returned (.agg #[.slice (some ⟨go, 0, none⟩) k k])) W9 from
        ⟨go, k, vs, [], by rw [stepL_len, hlen], by rw [← hW9, ← HE.out]; exact hI.out.o.farc (p := ⟨w.heap.size + 1 + 1, 0, none⟩) hI.out.res rfl (by decide) (by decide), by rw [← hW9]; exact hI.out.b.setCell (p := ⟨w.heap.size + 1 + 1, 0, none⟩) (by simp; omega) _⟩)
      have R9 := hI.out.res.set_ 0 (.slice (some ⟨go, 0, none⟩) k k)
      rw [hW9] at R9
      have HW9 := hide hW9
      have hld := load_row (agg_live (w := W9)) (size_live (w := W9)) rfl R9
      clear hW9 R9 hI
      go_wp2_with fail
      rw [HW9.out]
      exact bodyPost_ret (results_cell1 (fn := Tryd.f11) (t := 4) (T := 30) rfl _ W9 _ _ _ rfl hld) rfl HF.out
end
end Go.Proofs.YtjbgepjdohfhkaaDoor
end
