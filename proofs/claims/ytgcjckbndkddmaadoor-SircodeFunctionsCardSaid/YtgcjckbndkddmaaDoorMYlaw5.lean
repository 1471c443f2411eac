import Derived.Test.YtgcjckbndkddmaaDoorMYlaw2
set_option linter.unusedVariables false
set_option linter.unusedSimpArgs false
section
/-
  The walk of the law on Functions. Conditions: those of the types; the listed tables lie as their initialisers lay them.
-/
namespace Go.Proofs.YtgcjckbndkddmaaDoor
open Go.RowKit

theorem DsL.below {w w' : World} {lo B n c : Nat} {A : Option Addr} {rs : List (Option Addr × Nat × Nat)} {D : List (List Int)} (h : DsL w lo B A n c rs D) (hb : Below B w w') : DsL w' lo B A n c rs D :=
  ⟨h.len, h.rlen, h.cap, h.far, h.see.below hb, fun k r d e1 e2 => (h.at_ k r d e1 e2).keep fun _ _ hp => hb.cell hp⟩
/-- Element j, and where it stands. -/
theorem DsL.cell_ {w : World} {lo B n c : Nat} {A : Option Addr} {rs : List (Option Addr × Nat × Nat)} {D : List (List Int)} (h : DsL w lo B A n c rs D) {j : Nat} (hj : j < n) :
    ∃ b off A1 n1 c1, A = some ⟨b, off, none⟩ ∧ w.cell? ⟨b, off + j, none⟩ = some (.slice A1 n1 c1) ∧ DsAt w lo B A1 n1 c1 (D[j]'(by rw [h.len]; exact hj)) := by
  have hr : j < rs.length := by rw [h.rlen]; exact hj
  have hd : j < D.length := by rw [h.len]; exact hj
  obtain ⟨b, off, e, _, hc⟩ := h.see j (.slice rs[j].1 rs[j].2.1 rs[j].2.2) (by rw [List.getElem?_map, List.getElem?_eq_getElem hr]; rfl)
  exact ⟨b, off, _, _, _, e, hc, h.at_ j _ _ (List.getElem?_eq_getElem hr) (List.getElem?_eq_getElem hd)⟩

set_option maxRecDepth 100000 in
set_option maxHeartbeats 4000000 in
theorem funlaw_walk (A0 : Option Addr) (n0 c0 : Nat) (zs : List Int) (A1 : Option Addr) (n1 c1 : Nat) (bs : List Int) (w : World) (h : Hid (BsAt w w.heap.size A0 n0 c0 zs)) (h' : Hid (BsAt w w.heap.size A1 n1 c1 bs)) (hT : Hid (Tab w)) (hS : Hid (Shapes w)) :
    Calls Tryd.prog 7 #[.slice A0 n0 c0, .slice A1 n1 c1] w fun e w' => e = .returned (.bool true) ∧ Below w.heap.size w w' := by
  by_cases h500 : 500 < n1
  · have hz : (500 : Int) < (n1 : Int) := by omega
    go_enter Tryd.func7, Tryd.ntmps7
    go_wp2_with fail
    refine (awake_any w hT hS).mono ?_
    rintro e w1 ⟨rfl, hb1⟩
    have B1 := hide hb1
    clear hb1
    go_wp2_with fail
    go_ret
    exact ⟨rfl, B1.out⟩
  · have hz : ¬ ((500 : Int) < (n1 : Int)) := by omega
    have H500 := hide h500
    clear h500
    go_enter Tryd.func7, Tryd.ntmps7
    go_wp2_with fail
    refine (awake_any w hT hS).mono ?_
    rintro e w1 ⟨rfl, hb1⟩
    have B1 := hide hb1
    have C1 := hide (h.out.call hb1)
    clear hb1
    go_wp2_with fail
    refine (new_any A0 n0 c0 zs 200 w1 (hide C1.out.nil_) (hide C1.out.len) C1.out.nc (by have := C1.out.cm; have := C1.out.nc; omega) (by omega) (hide C1.out.see) (hide C1.out.byt)).mono ?_
    rintro e w2 ⟨rfl, hC2, hb2⟩
    have HC2 := hide hC2
    have B2 := hide (below_call B1.out hb2)
    have hg2 : w1.heap.size < w2.heap.size := hC2.lt
    have hgw : w.heap.size ≤ w1.heap.size := B1.out.size
    clear hC2 hb2
    go_wp2_with fail
    refine (prog_any w1.heap.size 4 8 w2 HC2 (by omega) (by omega) (by omega)).mono ?_
    rintro e w3 ⟨AP, nP, cP, hsP, F, rfl, hpg, hgood, hC3, hG3⟩
    obtain ⟨hW, hE, hL, hL14, him⟩ := drawn_small hgood (by omega) (by omega)
    have HW := hide hW
    have HE := hide hE
    have HIM := hide him
    have B3 := hide (below_inner B2.out hG3 (by omega))
    have G3 := hide hpg
    clear hpg hgood hC3 hG3 hW hE hL hL14 him
    go_wp2_with fail
    refine (rencode_any w3 w2.heap.size AP nP cP hsP F G3 HIM).mono ?_
    rintro e w4 ⟨r4, n4, rfl, ho4, hb4⟩
    rw [HE.out] at ho4 ⊢
    rw [if_pos rfl] at ho4
    obtain ⟨A4, c4, rfl, -, -, -, -⟩ := own_seen ho4
    have D4 := hide (BsAt.own ho4 (encY_byt HW.out))
    have B4 := hide (below_call B3.out hb4)
    have E4 := hide (h'.out.call B4.out)
    clear ho4 hb4
    go_wp2_with fail
    refine (mended_any A1 n1 c1 bs w4 E4 (by have := H500.out; omega)).mono ?_
    rintro e w5 ⟨A5, n5, c5, rfl, hm5, hb5⟩
    have B5 := hide (below_call B4.out hb5)
    obtain ⟨Z, hZ⟩ : ∃ Z, w5.heap.size = Z := ⟨_, rfl⟩
    obtain ⟨wl, hwl⟩ : ∃ wl, w5.alloc (.cells #[.slice A4 n4 c4, .slice A1 n1 c1, .slice A5 n5 c5] 22) = wl := ⟨_, rfl⟩
    have BL := hide (show Below w.heap.size w wl by rw [← hwl]; exact B5.out.alloc B5.out.size _)
    have RZ := hide (show Row wl Z 22 [.slice A4 n4 c4, .slice A1 n1 c1, .slice A5 n5 c5] by rw [← hwl, ← hZ]; exact Row.new w5 22 [.slice A4 n4 c4, .slice A1 n1 c1, .slice A5 n5 c5])
    have SLS := hide (fun (k : Nat) (hk : k < 3) => (show ∃ (A : Option Addr) (n c : Nat) (ys : List Int), wl.cell? ⟨Z, k, none⟩ = some (.slice A n c) ∧ BsAt wl wl.heap.size A n c ys from by
      rcases (show k = 0 ∨ k = 1 ∨ k = 2 by omega) with rfl | rfl | rfl
      · exact ⟨_, _, _, _, RZ.out.cell (k := 0) rfl, by rw [← hwl]; exact (D4.out.call hb5).call (below1 w5 _)⟩
      · exact ⟨_, _, _, _, RZ.out.cell (k := 1) rfl, by rw [← hwl]; exact (E4.out.call hb5).call (below1 w5 _)⟩
      · exact ⟨_, _, _, _, RZ.out.cell (k := 2) rfl, by rw [← hwl]; exact hm5.call (below1 w5 _)⟩))
    have HWL := hide hwl
    have HZ := hide hZ
    clear hm5 hb5 hwl hZ D4 E4
    go_upto_region 5 with (fail)
    rw [HWL.out, HZ.out]
    clear HWL HZ
    go_loopw [8, 9, 10, 11, 12, 13, 37] (fun _ _ _ _ _ _ iv wr => ∃ i : Nat, i ≤ 3 ∧ iv = .int .i64 (i : Int) ∧ Hid (Below wl.heap.size wl wr)) (fun _ _ _ _ _ _ iv _ => 3 - (intOf iv).toNat)
    case atStart => exact ⟨0, by omega, rfl, hide (Below.refl _ _)⟩
    case round =>
      obtain ⟨i, hi3, rfl, hbr⟩ := hrel
      by_cases hlt : i < 3
      · have hiz : (0 : Int) ≤ (i : Int) := by omega
        have hiz2 : (i : Int) < 3 := by omega
        obtain ⟨A, n, c, ys, hcell, hbs⟩ := SLS.out i hlt
        have z0 := keep_cellB hbr.out hcell
        have HBS := hide (hbs.call hbr.out)
        clear hcell hbs
        go_wp2_with fail
        refine (dfuncs_any A n c ys wr (hide HBS.out.len) HBS.out.nc HBS.out.cm (hide HBS.out.see) (hide HBS.out.byt)).mono ?_
        rintro e w6 ⟨A6, n6, c6, rs6, rfl, hd6, hb6⟩
        have HBS6 := hide (HBS.out.call hb6)
        have D6 := hide hd6
        have B6 := hide (hbr.out.trans (hb6.mono hbr.out.size))
        clear hd6 hb6 z0
        go_wp2_with fail
        refine (rfuncs_any A n c ys w6 (hide HBS6.out.len) HBS6.out.nc HBS6.out.cm (hide HBS6.out.see) (hide HBS6.out.byt)).mono ?_
        rintro e w7 ⟨A7, n7, c7, rs7, rfl, hd7, hb7⟩
        have B7 := hide (B6.out.trans (hb7.mono B6.out.size))
        have D67 := hide (D6.out.below hb7)
        have D7 := hide hd7
        obtain rfl : n7 = n6 := by rw [← hd7.len, ← D6.out.len]
        obtain ⟨x, hx⟩ : ∃ x, (parseR ys).1 = x := ⟨_, rfl⟩
        have hxx : (x != x) = false := by simp
        have h67 : w6.heap.size ≤ w7.heap.size := hb7.size
        have hnn : ((n7 : Int) != (n7 : Int)) = false := by simp
        have hn7 := cap_le hd7.cap
        rw [hx]
        clear hd7 hb7 hx HBS HBS6
        go_wp2_with fail
        go_loopw [13] (fun jv ws => ∃ j : Nat, j ≤ n7 ∧ jv = .int .i64 (j : Int) ∧ ∃ q, ws = w7.drewN q) (fun jv _ => n7 - (intOf jv).toNat)
        case atStart => exact ⟨0, Nat.zero_le _, rfl, 0, rfl⟩
        case round =>
          obtain ⟨j, hj, rfl, q, rfl⟩ := hrel
          by_cases hjl : j < n7
          · have hjz : (0 : Int) ≤ (j : Int) := by omega
            have hjz2 : (j : Int) < (n7 : Int) := by omega
            obtain ⟨b1, o1, X1, m1, k1, rfl, ce1, da1⟩ := D67.out.cell_ hjl
            obtain ⟨b2, o2, X2, m2, k2, rfl, ce2, da2⟩ := D7.out.cell_ hjl
            obtain ⟨W8, hW8⟩ : ∃ W8, w7.drewN q = W8 := ⟨_, rfl⟩
            have cv : ∀ q, Calls Tryd.prog 14 #[.slice X1 m1 k1, .slice X2 m2 k2] (W8.drewN q) (fun e w'' => e = .returned (.bool true) ∧ ∃ i, w'' = W8.drewN i) := fun q' => by
              rw [← hW8]
              refine (same_any X1 X2 m1 k1 m2 k2 _ w7.heap.size ((w7.drewN q).drewN q') (hide da1.len) (hide (by rw [← da2.len, ← da1.len])) (cap_le da1.cap) (((da1.see.more h67).draws q).draws q') ((da2.see.draws q).draws q')).mono fun e w'' he => ⟨he.1, ?_⟩
              obtain ⟨k, hk⟩ := he.2
              exact ⟨q' + k, by rw [hk, World.drewN_drewN]⟩
            have ce1' : ∀ q, (W8.drewN q).cell? ⟨b1, o1 + j, none⟩ = some (.slice X1 m1 k1) := fun q => by rw [← hW8]; exact ce1
            have ce2' : ∀ q, (W8.drewN q).cell? ⟨b2, o2 + j, none⟩ = some (.slice X2 m2 k2) := fun q => by rw [← hW8]; exact ce2
            have c1' : W8.cell? ⟨b1, o1 + j, none⟩ = some (.slice X1 m1 k1) := by rw [← hW8]; exact ce1
            have c2' : W8.cell? ⟨b2, o2 + j, none⟩ = some (.slice X2 m2 k2) := by rw [← hW8]; exact ce2
            have HW8 := hide hW8
            rw [hW8]
            clear da1 da2 ce1 ce2 hW8
            go_wp2_with fail
            go_quiet ((go_at_call 14; exact cv _))
            go_wp2_with fail
            go_roundw
            case rel => exact ⟨j + 1, by omega, by go_num, _, by rw [← HW8.out, World.drewN_drewN]⟩
            case measure => simp [intOf]; omega
          · have hlz : ¬ ((j : Int) < (n7 : Int)) := by omega
            have HN := hide (below_draws B7.out q)
            clear hjl
            go_wp2_with fail
            go_roundw
            case rel => exact ⟨i + 1, by omega, by go_num, HN⟩
            case measure => simp [intOf]; omega
      · obtain rfl : i = 3 := by omega
        have hlz : ¬ (((3 : Nat) : Int) < 3) := by omega
        have FIN := hide (BL.out.trans (hbr.out.mono BL.out.size))
        clear hlt
        go_wp2_with fail
        go_ret
        exact ⟨rfl, FIN.out⟩
end Go.Proofs.YtgcjckbndkddmaaDoor
end
