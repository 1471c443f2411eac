import Derived.Test.YtidlnecgfgnllaaDoorMAsal
import Derived.Test.YtidlnecgfgnllaaDoorMOwr
import Derived.Test.YtidlnecgfgnllaaDoorMDraw
set_option linter.unusedVariables false
set_option linter.unusedSimpArgs false
section
/-
  The contract of spillframedraw's Lives: a right annotation, which has all of the least solution. Conditions: those of the types; the function is right; the list of choices is one.
-/
namespace Go.Proofs.YtidlnecgfgnllaaDoor
open Go.RowKit

theorem Anw.grown {w w' : World} {base g' g : Nat} {vs sp : List Value} {zss : List (List Int)} (h : Anw w base g' vs sp zss) (hG : w.grownBy w' (some g)) (hg : g < base) : Anw w' base g' vs sp zss :=
  ⟨h.len, h.row.grown hG (fun e => by injection e with e; have := h.gb; omega), h.gb, fun i v zs hv hz => (h.own i v zs hv hz).kept hG (by
    cases hb : v.ownBlock with
    | none => exact .inl rfl
    | some b => exact .inr fun e => by injection e with e; have := ((h.own i v zs hv hz).lt b hb).1; omega), h.rng⟩
theorem slices_one {vs : List Value} {w : World} {base g : Nat} {sp : List Value} {zss : List (List Int)} (h : Anw w base g vs sp zss) : ∀ u ∈ vs, u.oneCell' = true := fun u hu => by
  obtain ⟨i, hi⟩ := List.mem_iff_getElem?.1 hu
  have hz : i < zss.length := by rw [← h.len]; exact (List.getElem?_eq_some_iff.1 hi).1
  obtain ⟨A, c, e, -, -⟩ := own_form (h.own i u _ hi (List.getElem?_eq_getElem hz))
  subst e
  rfl
/-- What Lives hands back. -/
def LivPost (g : Nat) (l : List Ins) (M n : Nat) (w : World) (e : Ending) (w' : World) : Prop :=
  ∃ (L : List (List Int)) (g' c : Nat) (vs sp : List Value), e = .returned (.agg #[.slice (some ⟨g', 0, none⟩) n c]) ∧ LvIn n M L ∧ AccL l M L ∧ Anw w' w.heap.size g' vs sp L ∧ Codes w' g ∧ w.grownBy w' (some g)
/-- What it keeps in memory. -/
structure LiI (w : World) (g : Nat) (P : Int) (A1 : Option Addr) (n1 c1 : Nat) (A2 : Option Addr) (n2 c2 : Nat) (X G c : Nat) (vs sp : List Value) (zss : List (List Int)) (wr : World) : Prop where
  f : Row wr w.heap.size 30 [.int .i64 P, .slice A1 n1 c1, .slice A2 n2 c2]
  res : Row wr (w.heap.size + 1) 25 [.slice none 0 0]
  x : Row wr X 25 [.slice (some ⟨G, 0, none⟩) n2 c]
  o : Anw wr w.heap.size G vs sp zss
  cd : Codes wr g
  gr : w.grownBy wr (some g)
  gs : g < w.heap.size
  xs : w.heap.size + 1 < X
section
variable {g : Nat} {P : Int} {A1 : Option Addr} {n1 c1 : Nat} {A2 : Option Addr} {n2 c2 X G c : Nat} {l : List Ins} {zss : List (List Int)} {w wr w2 : World} {vs sp : List Value}
theorem LiI.call (h : LiI w g P A1 n1 c1 A2 n2 c2 X G c vs sp zss wr) (hb : Below wr.heap.size wr w2) : LiI w g P A1 n1 c1 A2 n2 c2 X G c vs sp zss w2 := ⟨h.f.call hb, h.res.call hb, h.x.call hb, h.o.below hb, h.cd.below hb, h.gr.trans (grown_below hb _), h.gs, h.xs⟩
theorem LiI.next (h : LiI w g P A1 n1 c1 A2 n2 c2 X G c vs sp zss wr) (hG : wr.grownBy w2 (some g)) (hC : Codes w2 g) : LiI w g P A1 n1 c1 A2 n2 c2 X G c vs sp zss w2 :=
  ⟨h.f.grown hG (fun e => by injection e with e; have := h.gs; omega), h.res.grown hG (fun e => by injection e with e; have := h.gs; omega), h.x.grown hG (fun e => by injection e with e; have := h.gs; have := h.xs; omega), h.o.grown hG h.gs, hC, h.gr.trans hG, h.gs, h.xs⟩
theorem LiI.put (h : LiI w g P A1 n1 c1 A2 n2 c2 X G c vs sp zss wr) {j : Nat} {v : Value} {zs : List Int} (hj : j < zss.length) (hv : wr.ownsRow w.heap.size 3 1 v zs.length (cellsI zs)) (hr : IntOk zs) :
    LiI w g P A1 n1 c1 A2 n2 c2 X G c (vs.set j v) sp (zss.set j zs) (wr.setCell ⟨G, j, none⟩ v) :=
  ⟨h.f.far (p := ⟨G, j, none⟩) (h.f.ne_ h.o.row (by decide)) _, h.res.far (p := ⟨G, j, none⟩) (h.res.ne_ h.o.row (by decide)) _, h.x.far (p := ⟨G, j, none⟩) (h.x.ne_ h.o.row (by decide)) _, h.o.put hj hv hr,
    h.cd.kept (fgrown_set wr G j v) (fun k e => by injection e with e; have := h.gs; have := h.o.gb; omega), grown_new1 h.gr h.o.gb j v, h.gs, h.xs⟩
set_option maxRecDepth 100000 in
set_option maxHeartbeats 4000000 in
theorem lives_any (w : World) (hC : Hid (CdAt w A2 n2 l)) (hok : Hid (LvOk l n1)) (hCd : Hid (Codes w g)) (hn2 : 1 ≤ n2) :
    Calls Tryd.prog 19 #[.pointer (some ⟨g, 0, none⟩), fv P A1 n1 c1 A2 n2 c2] w (LivPost g l n1 n2 w) := by
  obtain ⟨j0, ji, jz0, jz1, jz2⟩ := info_parts infoS
  have hlen := hC.out.len
  have hnf := hC.out.few
  have hMf := hok.out.few
  have hgs := hCd.out.lt
  obtain ⟨W2, hW2⟩ : ∃ W, (w.alloc (.cells #[.int .i64 P, .slice A1 n1 c1, .slice A2 n2 c2] 30)).alloc (.cells #[.slice none 0 0] 25) = W := ⟨_, rfl⟩
  have F2 := hide (show Row W2 w.heap.size 30 [.int .i64 P, .slice A1 n1 c1, .slice A2 n2 c2] by rw [← hW2]; exact (Row.new w _ _).alloc _)
  have R2 := hide (show Row W2 (w.heap.size + 1) 25 [.slice none 0 0] by rw [← hW2]; exact (Row.new _ _ _).at_ (by simp))
  have B2 := hide (show Below w.heap.size w W2 by rw [← hW2]; exact below2 w _ _)
  have hs2 : W2.heap.size = w.heap.size + 2 := by rw [← hW2]; simp
  have HW2 := hide hW2
  have HS2 := hide hs2
  have csol := rsolve_any (P := P) (A1 := A1) (n1 := n1) (c1 := c1) (c2 := c2) W2 (hide (hC.out.below B2.out)) hok
  have hsl : (solL l n1).length = n2 := by rw [(sol_in hok.out).len, hlen]
  have HSI := hide (show LvIn n2 n1 (solL l n1) by rw [← hlen]; exact sol_in hok.out)
  have q0 := F2.out.cell (k := 0) rfl
  have q1 := F2.out.cell (k := 1) rfl
  have q2 := F2.out.cell (k := 2) rfl
  clear hW2 hs2
  go_enter Tryd.func19, Tryd.ntmps19
  go_upto_region 1 with (fail)
  rw [HW2.out]
  clear HW2
  go_wp2_with fail
  refine csol.mono ?_
  rintro e w3 ⟨g3, c3, us, up, rfl, ho3, hb3⟩
  rw [hsl]
  obtain ⟨W4, hW4⟩ : ∃ W, w3.alloc (.cells #[.slice (some ⟨g3, 0, none⟩) n2 c3] 25) = W := ⟨_, rfl⟩
  have hb4 : Below w3.heap.size w3 W4 := by rw [← hW4]; exact below1 _ _
  have F4 := hide ((F2.out.call hb3).call hb4)
  have R4 := hide ((R2.out.call hb3).call hb4)
  have B4 := hide (below_call (below_call B2.out hb3) hb4)
  have O4 := hide ((ho3.below hb4).lower (show w.heap.size ≤ W2.heap.size from B2.out.size))
  have N4 := hide (show Row W4 w3.heap.size 25 [.slice (some ⟨g3, 0, none⟩) n2 c3] by rw [← hW4]; exact Row.new w3 _ _)
  have HW4 := hide hW4
  have hx1 : w.heap.size + 2 ≤ w3.heap.size := by have := hb3.size; have := HS2.out; omega
  obtain ⟨X1, hX1⟩ : ∃ X, w3.heap.size = X := ⟨_, rfl⟩
  rw [hX1] at N4 hx1
  have HX1 := hide hX1
  clear hb3 hb4 hW4 ho3 hX1 q0 q1 q2 csol F2 R2 HS2
  go_upto_region 2 with (fail)
  rw [HW4.out, HX1.out]
  clear HW4 HX1
  have y0 := N4.out.cell (k := 0) rfl
  have ho0 : W4.ownsRow W4.heap.size 42 1 (.slice none 0 0) 0 [] := ⟨rfl, .inl ⟨rfl, rfl⟩⟩
  have hul : us.length = n2 := by rw [O4.out.len, hsl]
  have HSe := hide (show Sees W4 W4.heap.size (some ⟨g3, 0, none⟩) us from fun k u hu => ⟨g3, 0, rfl, O4.out.row.lt, by rw [Nat.zero_add]; exact O4.out.row.cell (by rw [List.getElem?_append_left (List.getElem?_eq_some_iff.1 hu).1]; exact hu)⟩)
  have H1 := hide (slices_one O4.out)
  go_wp2_with (at_builtin; refine wpList_append_sees rfl (.const (.slice none 0 0)) (.tmp 13) 23 rfl W4.heap.size 42 j0 (.slice none 0 0) 24 Tryd.underlying23 ji jz0 jz1 jz2 rfl _ 0 [] rfl ho0 W4.heap.size (some ⟨g3, 0, none⟩) n2 c3 us rfl (hide (fun e => by cases e)) hul HSe.out H1.out (by unfold maxLen; omega) (by omega) (Nat.le_refl _) ?_)
  intro v5 w5 ho5 hg5
  have hb5 : Below W4.heap.size W4 w5 := (Below.refl W4.heap.size W4).grown hg5 (Nat.le_refl _) (fun k hk => by cases hk)
  obtain ⟨G, c5, sp, rfl, hG5, hR5⟩ := own_row ho5 (by omega)
  have hGB : w.heap.size ≤ G := by have := B4.out.size; omega
  obtain ⟨W6, hW6⟩ : ∃ W, w5.alloc (.cells #[.slice (some ⟨G, 0, none⟩) n2 c5] 25) = W := ⟨_, rfl⟩
  have hb6 : Below w5.heap.size w5 W6 := by rw [← hW6]; exact below1 _ _
  have hx2 : w.heap.size + 1 < w5.heap.size := by have := hb5.size; have := R4.out.lt; omega
  have I6 := hide (show LiI w g P A1 n1 c1 A2 n2 c2 w5.heap.size G c5 us sp (solL l n1) W6 from
    ⟨(F4.out.call hb5).call hb6, (R4.out.call hb5).call hb6, by rw [← hW6]; exact Row.new w5 _ _,
      ⟨O4.out.len, hR5.call hb6, hGB, fun i v zs hv hz => own_below (own_below (O4.out.own i v zs hv hz) hb5) hb6, O4.out.rng⟩,
      ((hCd.out.below B4.out).below hb5).below hb6, grown_below (below_call (below_call B4.out hb5) hb6) _, hgs, hx2⟩)
  have HW6 := hide hW6
  obtain ⟨X, hX⟩ : ∃ X, w5.heap.size = X := ⟨_, rfl⟩
  rw [hX] at I6
  have HX := hide hX
  clear hb5 hb6 hW6 ho5 hg5 hX hR5 hx2 y0 F4 R4 B4 O4 N4 HSe H1 ho0 hul hG5 hGB hx1
  go_upto_region 3 with (fail)
  rw [HW6.out, HX.out]
  clear HW6 HX
  have cn := next_any g 3 W6 (hide I6.out.cd) (by omega) (by omega)
  go_wp2_with fail
  refine cn.mono ?_
  rintro e w7 ⟨v7, rfl, v0, v1, hC7, hG7, -⟩
  have I7 := hide (I6.out.next hG7 hC7)
  clear hC7 hG7 cn I6
  go_wp2_with fail
  obtain ⟨cnt, rfl⟩ := Int.eq_ofNat_of_zero_le v0
  go_loopw [7] (fun s7 wr => ∃ (d : Nat) (L : List (List Int)) (vs : List Value), s7 = .int .i64 (d : Int) ∧ d ≤ 3 ∧ Hid (LvIn n2 n1 L) ∧ Hid (AccL l n1 L) ∧ Hid (LiI w g P A1 n1 c1 A2 n2 c2 X G c5 vs sp L wr)) (fun s7 _ => (intOf s7).toNat)
  case atStart => exact ⟨cnt, _, _, rfl, by omega, HSI, hide ⟨fun _ _ h => h, by rw [sol_fix hok.out]; exact fun _ _ h => h⟩, I7⟩
  case round =>
    obtain ⟨d, L, vs, rfl, hd3, hLI, hLS, hI⟩ := hrel
    clear I7
    have HLL := hide hLI.out.len
    have q1 := hI.out.f.cell (k := 1) rfl
    by_cases hgo : 0 < d ∧ 0 < n1
    · obtain ⟨hd0, hm0⟩ := hgo
      have hd0' : (0 : Int) < (d : Int) := by omega
      have hm0' : (0 : Int) < (n1 : Int) := by omega
      have cn := next_any g (n1 : Int) wr (hide hI.out.cd) (by omega) (by omega)
      go_wp2_with fail
      refine cn.mono ?_
      rintro e w8 ⟨s, rfl, s0, s1, hC8, hG8, -⟩
      have I8 := hide (hI.out.next hG8 hC8)
      have HLA := hide (adI_in hLI.out s1 n2)
      have HSA := hide (show AccL l n1 (adI L s n2) from ⟨adI_sub hLS.out.1 (by rw [hsl, HLL.out]) s n2, by have h := adI_acc (s := s) hok.out (by rw [hlen]; exact hLI.out) hLS.out.2 (by omega) (by omega); rwa [hlen] at h⟩)
      have I8 := hide (show LiI w g P A1 n1 c1 A2 n2 c2 X G c5 vs sp (adI L s 0) w8 by rw [adI_start]; exact I8.out)
      clear hC8 hG8 cn hI q1
      go_wp2_with fail
      go_loopw [9] (fun s9 wr => ∃ (k : Nat) (vs : List Value), s9 = .int .i64 (k : Int) ∧ k ≤ n2 ∧ Hid (LiI w g P A1 n1 c1 A2 n2 c2 X G c5 vs sp (adI L s k) wr)) (fun s9 _ => n2 - (intOf s9).toNat)
      case atStart => exact ⟨0, vs, rfl, by omega, I8⟩
      case round =>
        obtain ⟨k, vs2, rfl, hk, hI⟩ := hrel
        clear I8
        have x0 := hI.out.x.cell (k := 0) rfl
        by_cases hlt : k < n2
        · have hkl : k < L.length := by have := HLL.out; omega
          obtain ⟨Ak, ck, hvk, z0, hlk, hnk, -⟩ := hI.out.o.vat (adI_at (s := s) hkl)
          have HUA := hide (hLI.out.asc k)
          have HST := hide (adI_step (s := s) hkl)
          have HAL := hide (show k < (adI L s k).length by rw [adI_len]; exact hkl)
          obtain ⟨u, hu⟩ : ∃ u, L.getD k [] = u := ⟨_, rfl⟩
          rw [hu] at HUA hlk hvk z0 HST
          have CU := hide (fun (V : World) (hb : Below wr.heap.size wr V) => (s_add ck (x := s) (hide (hlk.below hb)) HUA (hide rfl) : Calls Tryd.prog 17 #[.slice Ak u.length ck, .int .i64 s] V (OutPost (addL u s) V)))
          have HRA := hide (IntOk.asc (addL_asc (n := s) HUA.out))
          obtain ⟨r, hr⟩ : ∃ r, addL u s = r := ⟨_, rfl⟩
          rw [hr] at HST CU HRA
          have HPT := hide (fun (V : World) (A' : Option Addr) (c' : Nat) (h : Hid (LiI w g P A1 n1 c1 A2 n2 c2 X G c5 vs2 sp (adI L s k) V)) (ho : V.ownsRow w.heap.size 3 1 (.slice A' r.length c') r.length (cellsI r)) =>
            (show LiI w g P A1 n1 c1 A2 n2 c2 X G c5 (vs2.set k (.slice A' r.length c')) sp (adI L s (k + 1)) (V.setCell ⟨G, k, none⟩ (.slice A' r.length c')) by
              rw [HST.out]; exact h.out.put HAL.out ho HRA.out))
          have HZ := hide (fun (V : World) (h : Hid (LiI w g P A1 n1 c1 A2 n2 c2 X G c5 vs2 sp (adI L s k) V)) => (show V.cell? ⟨G, k, none⟩ = some (.slice Ak u.length ck) ∧ V.frozen? ⟨G, k, none⟩ = false from
            ⟨h.out.o.row.cell (by rw [List.getElem?_append_left (List.getElem?_eq_some_iff.1 hvk).1]; exact hvk), h.out.o.free k⟩))
          have KS := hide (fun (V : World) (h : Hid (LiI w g P A1 n1 c1 A2 n2 c2 X G c5 vs2 sp (adI L s k) V)) => (⟨h.out.x.cell (k := 0) rfl, (HZ.out V h).1⟩ : _ ∧ _))
          have HSZ := hide (show w.heap.size ≤ wr.heap.size from hI.out.gr.size)
          have J0 := hide (hI.out.call (Below.refl _ _).drew)
          have HS0 := KS.out _ J0
          have B0 := hide (show Below wr.heap.size wr wr.drew from (Below.refl _ _).drew)
          have hk0 : (0 : Int) ≤ (k : Int) := by omega
          have hkn : (k : Int) < (n2 : Int) := by omega
          clear hu hr hvk hlk hnk hkl
          go_upto_region 10 with (fail)
          refine wp_region_lastH (S := (fun V => V.cell? ⟨X, 0, none⟩ = some (.slice (some ⟨G, 0, none⟩) n2 c5) ∧ V.cell? ⟨G, k, none⟩ = some (.slice Ak u.length ck))) 11 (by kernel_rfl) rfl rfl (by kernel_rfl) ?_
          have hHeld := HS0
          refine wpAnyH_take (i := 0) (v := ?_) tk_0 (by kernel_rfl) (by kernel_rfl) (by kernel_rfl) (fun _ _ _ h => h) (Or.inl ⟨by rfl, ?_⟩) hHeld ?_
          rotate_left
          · intro V hSw
            try dsimp only at hSw
            go_simp
            all_goals with_reducible rfl
          try simp only [Act.put, List.setIfInBounds_toArray, List.set_cons_zero, List.set_cons_succ]
          refine wpAnyH_take (i := 1) (v := ?_) tk_1 (by kernel_rfl) (by kernel_rfl) (by kernel_rfl) (fun _ _ _ h => h) (Or.inl ⟨by rfl, ?_⟩) hHeld ?_
          rotate_left
          · intro V hSw
            try dsimp only at hSw
            go_simp
            all_goals with_reducible rfl
          try simp only [Act.put, List.setIfInBounds_toArray, List.set_cons_zero, List.set_cons_succ]
          refine wpAnyH_take (i := 2) (v := ?_) tk_2 (by kernel_rfl) (by kernel_rfl) (by kernel_rfl) (fun _ _ _ h => h) (Or.inl ⟨by rfl, ?_⟩) hHeld ?_
          rotate_left
          · intro V hSw
            try dsimp only at hSw
            go_simp
            all_goals with_reducible rfl
          try simp only [Act.put, List.setIfInBounds_toArray, List.set_cons_zero, List.set_cons_succ]
          refine wpAnyH_take (i := 3) (v := ?_) tk_3 (by kernel_rfl) (by kernel_rfl) (by kernel_rfl) (fun _ _ _ h => h) (Or.inl ⟨by rfl, ?_⟩) hHeld ?_
          rotate_left
          · intro V hSw
            try dsimp only at hSw
            go_simp
            all_goals with_reducible rfl
          try simp only [Act.put, List.setIfInBounds_toArray, List.set_cons_zero, List.set_cons_succ]
          refine wpAnyH_take (i := 4) (v := ?_) tk_4 (by kernel_rfl) (by kernel_rfl) (by kernel_rfl) (fun _ _ _ h => h) (Or.inl ⟨by rfl, ?_⟩) hHeld ?_
          rotate_left
          · intro V hSw
            try dsimp only at hSw
            go_simp
            all_goals with_reducible rfl
          try simp only [Act.put, List.setIfInBounds_toArray, List.set_cons_zero, List.set_cons_succ]
          refine wpAnyH_take (i := 5) (v := ?_) tk_5 (by kernel_rfl) (by kernel_rfl) (by kernel_rfl) (fun _ _ _ h => h) (Or.inl ⟨by rfl, ?_⟩) hHeld ?_
          rotate_left
          · intro V hSw
            try dsimp only at hSw
            go_simp
            all_goals with_reducible rfl
          try simp only [Act.put, List.setIfInBounds_toArray, List.set_cons_zero, List.set_cons_succ]
          refine wpAnyH_take (i := 6) (v := ?_) tk_6 (by kernel_rfl) (by kernel_rfl) (by kernel_rfl) (fun _ _ _ h => h) (Or.inl ⟨by rfl, ?_⟩) hHeld ?_
          rotate_left
          · intro V hSw
            try dsimp only at hSw
            go_simp
            all_goals with_reducible rfl
          try simp only [Act.put, List.setIfInBounds_toArray, List.set_cons_zero, List.set_cons_succ]
          refine wpAnyH_take (i := 7) (v := ?_) tk_7 (by kernel_rfl) (by kernel_rfl) (by kernel_rfl) (fun _ _ _ h => h) (Or.inl ⟨by rfl, ?_⟩) hHeld ?_
          rotate_left
          · intro V hSw
            try dsimp only at hSw
            go_simp
            all_goals with_reducible rfl
          try simp only [Act.put, List.setIfInBounds_toArray, List.set_cons_zero, List.set_cons_succ]
          refine wpAnyH_take (i := 8) (v := ?_) tk_8 (by kernel_rfl) (by kernel_rfl) (by kernel_rfl) (fun _ _ _ h => h) (Or.inl ⟨by rfl, ?_⟩) hHeld ?_
          rotate_left
          · intro V hSw
            try dsimp only at hSw
            go_simp
            all_goals with_reducible rfl
          try simp only [Act.put, List.setIfInBounds_toArray, List.set_cons_zero, List.set_cons_succ]
          refine wpAnyH_ready (rs := [9]) (by kernel_rfl) (by simp) ?_
          refine AllReadyH.cons tk_9 (fun K hK => ?_) AllReadyH.nil
          go_simp
          go_at_call 17
          with_reducible refine Calls.mono (CU.out _ B0.out) ?_
          intro e w6 h6
          unfold OutPost at h6
          obtain ⟨A6, c6, rfl, ho6, hb6⟩ := h6
          have J6 := hide (J0.out.call hb6)
          have HS6 := KS.out _ J6
          obtain ⟨z6, f6⟩ := HZ.out _ J6
          have J7 := hide (HPT.out _ _ _ J6 (own_lower ho6 (Nat.le_trans HSZ.out B0.out.size)))
          clear ho6 hb6
          refine hK.out _ _ HS6 (fun hHeld => ?_)
          clear hK K
          try simp only [Act.put, List.setIfInBounds_toArray, List.set_cons_zero, List.set_cons_succ]
          refine wpAnyH_take (i := 10) (v := ?_) tk_10 (by kernel_rfl) (by kernel_rfl) (by kernel_rfl) (fun _ _ _ h => h) (Or.inl ⟨by rfl, ?_⟩) hHeld ?_
          rotate_left
          · intro V hSw
            try dsimp only at hSw
            go_simp
            all_goals with_reducible rfl
          try simp only [Act.put, List.setIfInBounds_toArray, List.set_cons_zero, List.set_cons_succ]
          refine wpAnyH_done (by kernel_rfl) ?_ _
          unfold LastQ
          clear HS0 HS6 CU HZ KS J0 HPT HST HUA HRA hI x0 HAL
          go_wp2_with fail
          go_roundw
          case rel => exact ⟨k + 1, _, by go_num, by omega, J7⟩
          case measure => simp [intOf]; omega
        · obtain rfl : k = n2 := by omega
          clear x0
          have x0 := hI.out.x.cell (k := 0) rfl
          go_wp2_with fail
          go_roundw
          case rel => exact ⟨d - 1, _, vs2, by go_num, by omega, HLA, HSA, hI⟩
          case measure => simp [intOf]; omega
    · have x0 := hI.out.x.cell (k := 0) rfl
      have z1 := hI.out.res.cell (k := 0) rfl
      have z2 := hI.out.res.free 0
      obtain ⟨W9, hW9⟩ : ∃ W, wr.setCell ⟨w.heap.size + 1, 0, none⟩ (.slice (some ⟨G, 0, none⟩) n2 c5) = W := ⟨_, rfl⟩
      have HF := hide (show LivPost g l n1 n2 w (.returned (.agg #[.slice (some ⟨G, 0, none⟩) n2 c5])) W9 from
        ⟨L, G, c5, vs, sp, rfl, hLI.out, hLS.out, by rw [← hW9]; exact hI.out.o.farc (p := ⟨w.heap.size + 1, 0, none⟩) hI.out.res rfl (by decide) (by decide), by
          rw [← hW9]; exact hI.out.cd.kept (fgrown_set wr (w.heap.size + 1) 0 _) (fun k e => by injection e with e; omega), by rw [← hW9]; exact grown_new1 hI.out.gr (by omega) 0 _⟩)
      have R9 := hI.out.res.set_ 0 (.slice (some ⟨G, 0, none⟩) n2 c5)
      rw [hW9] at R9
      have HW9 := hide hW9
      have hld := load_row (agg_live (w := W9)) (size_live (w := W9)) rfl R9
      clear hW9 R9 hI
      by_cases hd : 0 < d
      · obtain rfl : n1 = 0 := by omega
        have hd0 : (0 : Int) < (d : Int) := by omega
        go_wp2_with fail
        rw [HW9.out]
        exact bodyPost_ret (results_cell1 (fn := Tryd.f19) (t := 4) (T := 25) rfl _ W9 _ _ _ rfl hld) rfl HF.out
      · obtain rfl : d = 0 := by omega
        go_wp2_with fail
        rw [HW9.out]
        exact bodyPost_ret (results_cell1 (fn := Tryd.f19) (t := 4) (T := 25) rfl _ W9 _ _ _ rfl hld) rfl HF.out
end
end Go.Proofs.YtidlnecgfgnllaaDoor
end
