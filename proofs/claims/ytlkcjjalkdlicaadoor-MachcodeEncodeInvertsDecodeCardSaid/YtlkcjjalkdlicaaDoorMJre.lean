import Derived.Test.YtlkcjjalkdlicaaDoorMJfr
set_option linter.unusedVariables false
set_option linter.unusedSimpArgs false
section
/-
  The program's read: a target and a bound of any bytes. Conditions: from 5 to 2^20 bytes.
-/
namespace Go.Proofs.YtlkcjjalkdlicaaDoor
open Go.RowKit

theorem jinfo_frame : (Tryd.prog.info? 83).map (fun i => (i.zero, i.size, i.bytes)) = some (some (.agg #[.int .i64 0, .int .i64 0, .slice none 0 0]), 3, 40) := by kernel_rfl
theorem fdcells_set {l : List Fd} {i : Nat} {x : Fd} (h : l[i]? = some x) (p s : Int) (a : Option Addr) (n c : Nat) :
    (((fdcells l).set (i * 3) (.int .i64 p)).set (i * 3 + 1) (.int .i64 s)).set (i * 3 + 2) (.slice a n c) = fdcells (l.set i ⟨p, s, a, n, c⟩) := by
  have hk : i < l.length := (List.getElem?_eq_some_iff.1 h).1
  have s0 := flat_set fdcell_len l i x ⟨p, x.s, x.a, x.n, x.c⟩ h 0 (by omega) (.int .i64 p) rfl
  have s1 := flat_set fdcell_len (l.set i ⟨p, x.s, x.a, x.n, x.c⟩) i ⟨p, x.s, x.a, x.n, x.c⟩ ⟨p, s, x.a, x.n, x.c⟩ (by rw [List.getElem?_set_self hk]) 1 (by omega) (.int .i64 s) rfl
  have s2 := flat_set fdcell_len (l.set i ⟨p, s, x.a, x.n, x.c⟩) i ⟨p, s, x.a, x.n, x.c⟩ ⟨p, s, a, n, c⟩ (by rw [List.getElem?_set_self hk]) 2 (by omega) (.slice a n c) rfl
  rw [List.set_set] at s1 s2
  unfold fdcells
  rw [Nat.add_zero] at s0
  rw [s0, s1, s2]
theorem Fds.snoc {w : World} {lo B : Nat} {hs : List Fd} {F : Tg} {h : Fd} {f : Fm} (H : Fds w lo B hs F) (h1 : FdAt w lo B h f) : Fds w lo B (hs ++ [h]) (F ++ [f]) := by
  refine ⟨by rw [List.length_append, List.length_append, H.len]; rfl, fun k h' f' e1 e2 => ?_⟩
  by_cases hk : k < hs.length
  · rw [List.getElem?_append_left hk] at e1
    rw [List.getElem?_append_left (by rw [← H.len]; exact hk)] at e2
    exact H.at_ k h' f' e1 e2
  · rw [List.getElem?_append_right (by omega)] at e1
    rw [List.getElem?_append_right (by rw [← H.len]; omega), ← H.len] at e2
    cases hd : k - hs.length with
    | zero =>
      rw [hd] at e1 e2
      injection e1 with e1
      injection e2 with e2
      subst e1 e2
      exact h1
    | succ m =>
      rw [hd] at e1
      simp at e1
theorem Fds.grown {w w' : World} {lo B g : Nat} {hs : List Fd} {F : Tg} (H : Fds w lo B hs F) (hg : w.grownBy w' (some g)) (hlo : g < lo) (hB : B ≤ w.heap.size) : Fds w' lo B hs F := ⟨H.len, fun k h f e1 e2 => (H.at_ k h f e1 e2).grown hg hlo hB⟩
/-- Every Imm field that is read is a number of 64 bits. -/
theorem wordR_byt {l r : List Int} {v : Nat} (hz : Byt l) (h : wordR l = .ok v r) : Byt r := by
  have e := (wordR_ok hz h).1
  rw [e] at hz
  exact hz.right
theorem wordL_byt {l : List Int} (hz : Byt l) : Byt (wordL l).2 := by
  unfold wordL
  rcases hm : wordR l with x | ⟨v, r⟩
  · exact hz
  · exact wordR_byt hz hm
theorem opL_byt {l : List Int} (hz : Byt l) : Byt (opL l).2 := by
  cases l with
  | nil => exact Byt.nil_
  | cons z r => exact fun y hy => hz y (List.mem_cons_of_mem _ hy)
theorem nRest_byt {l : List Int} (hz : Byt l) : ∀ i, Byt (nRest l i)
  | 0 => hz
  | i + 1 => wordL_byt (nRest_byt hz i)
theorem minsL_imm {l : List Int} (hz : Byt l) : (0 ≤ (minsL l).1.imm ∧ (minsL l).1.imm ≤ 18446744073709551615) ∧ Byt (minsL l).2 := by
  have h1 := nRest_byt (opL_byt hz) (mcnt (opL l).1)
  have h2 := wordL_le h1
  unfold minsL
  simp only
  split
  · exact ⟨by omega, wordL_byt h1⟩
  · exact ⟨by omega, h1⟩
theorem timesL_all {α : Type} {p : List Int → α × List Int} {Q : α → Prop} (h : ∀ l, Byt l → Q (p l).1 ∧ Byt (p l).2) : ∀ (n : Nat) (l : List Int), Byt l → (∀ a ∈ (timesL p n l).1, Q a) ∧ Byt (timesL p n l).2
  | 0, l, hz => ⟨(fun a ha => by cases ha), hz⟩
  | n + 1, l, hz => by
    obtain ⟨h1, h2⟩ := h l hz
    obtain ⟨h3, h4⟩ := timesL_all h n _ h2
    exact ⟨fun a ha => by
      rcases List.mem_cons.1 ha with rfl | ha
      · exact h1
      · exact h3 a ha, h4⟩
theorem tgL_imm {l : List Int} (hz : Byt l) : ImmT (tgL l).1.2.2 := by
  have h := (timesL_all (p := frL ((2 : Int) ^ (limL 24 l).1)) (Q := fun f => ∀ x ∈ f.code, 0 ≤ x.imm ∧ x.imm ≤ 18446744073709551615) (fun l hz => by
    have h2 := timesL_all (p := minsL) (Q := fun x => 0 ≤ x.imm ∧ x.imm ≤ 18446744073709551615) (fun l hz => minsL_imm hz) (limL 1024 (numL (numL l).2).2).1 (limL 1024 (numL (numL l).2).2).2 (wordL_byt (wordL_byt (wordL_byt hz)))
    exact h2) (limL 80 (numL (limL 24 l).2).2).1 (limL 80 (numL (limL 24 l).2).2).2 (wordL_byt (wordL_byt (wordL_byt hz)))).1
  exact h
/-- What read leaves. -/
def JRePost (zs : List Int) (w : World) (e : Ending) (w' : World) : Prop :=
  ∃ (A : Option Addr) (n c : Nat) (hs : List Fd), e = .returned (.tuple #[.agg #[.int .i64 (tgL (zs.drop 4)).1.1, .slice A n c], .int .i64 (tgL (zs.drop 4)).1.2.1]) ∧ TgAt w' w.heap.size w'.heap.size A n c hs (tgL (zs.drop 4)).1.2.2 ∧ Below w.heap.size w w'
/-- What the loop over the frames keeps. -/
structure JReI (w W : World) (g G T n : Nat) (Al : Int) (l : List Int) (i : Nat) (wr : World) : Prop where
  k : JK W g (timesL (frL Al) i l).2 wr
  t : Row wr T 47 [.int .i64 Al, .slice (some ⟨G, 0, none⟩) n n]
  r : ∃ hs : List Fd, hs.length = i ∧ Row wr G 83 (fdcells (hs ++ List.replicate (n - i) ⟨0, 0, none, 0, 0⟩)) ∧ Fds wr (G + 1) wr.heap.size hs (timesL (frL Al) i l).1
  z : Row wr w.heap.size 47 [.int .i64 0, .slice none 0 0]

set_option maxRecDepth 100000 in
set_option maxHeartbeats 4000000 in
theorem jread_any (b off n0 c0 : Nat) (zs : List Int) (w : World) (h5 : 5 ≤ n0) (hmost : n0 ≤ 1048576) (hB : Hid (BsAt w w.heap.size (some ⟨b, off, none⟩) n0 c0 zs)) :
    Calls Tryd.prog 43 #[.slice (some ⟨b, off, none⟩) n0 c0] w (JRePost zs w) := by
  obtain ⟨i0, hi, hz0, hz1, hz2⟩ := info_parts jinfo_frame
  have hnc := hB.out.nc
  have hcm := hB.out.cm
  obtain ⟨l, hl⟩ : ∃ l, zs.drop 4 = l := ⟨_, rfl⟩
  obtain ⟨l1, hl1⟩ : ∃ x, (limL 24 l).2 = x := ⟨_, rfl⟩
  obtain ⟨k, hk⟩ : ∃ x, (limL 24 l).1 = x := ⟨_, rfl⟩
  obtain ⟨l2, hl2⟩ : ∃ x, (numL l1).2 = x := ⟨_, rfl⟩
  obtain ⟨bd, hbd⟩ : ∃ x, (numL l1).1 = x := ⟨_, rfl⟩
  obtain ⟨l3, hl3⟩ : ∃ x, (limL 80 l2).2 = x := ⟨_, rfl⟩
  obtain ⟨n, hn⟩ : ∃ x, (limL 80 l2).1 = x := ⟨_, rfl⟩
  have hk24 : k ≤ 24 := by rw [← hk]; exact Nat.min_le_right _ _
  have hn80 : n ≤ 80 := by rw [← hn]; exact Nat.min_le_right _ _
  have HF := hide (show (tgL (zs.drop 4)).1 = ((2 : Int) ^ k, bd, (timesL (frL ((2 : Int) ^ k)) n l3).1) by rw [hl, ← hn, ← hl3, ← hbd, ← hl2, ← hk, ← hl1]; rfl)
  have PW := hide (pow_wrap hk24)
  obtain ⟨Al, hAl⟩ : ∃ x, (2 : Int) ^ k = x := ⟨_, rfl⟩
  rw [hAl] at HF PW
  have hmk := make_flat (P := Tryd.prog) (f := fdcell) (a := (⟨0, 0, none, 0, 0⟩ : Fd)) Tryd.underlying45 hi hz0 hz1 fdcell_len rfl n (by rw [hz2]; omega) (by omega)
  obtain ⟨W, hW⟩ : ∃ W, (w.alloc (.cells #[.int .i64 0, .slice none 0 0] 47)).alloc (.cells #[.slice (some ⟨b, off + 4, none⟩) (n0 - 4) (c0 - 4)] 128) = W := ⟨_, rfl⟩
  have HW := hide hW
  obtain ⟨g, hg⟩ : ∃ g, w.heap.size + 1 = g := ⟨_, rfl⟩
  have Z0 := hide (show Row W w.heap.size 47 [.int .i64 0, .slice none 0 0] by rw [← hW]; exact (Row.new w _ _).alloc _)
  have HBW := hide (show Below w.heap.size w W by rw [← hW]; exact below2 w _ _)
  have hWs : W.heap.size = g + 1 := by rw [← hW, ← hg]; simp
  have JR0 := hide (show JR W g l from ⟨b, off + 4, n0 - 4, c0 - 4, by rw [← hW, ← hg]; exact (Row.new _ _ _).at_ (by simp), by rw [← hl, List.length_drop, hB.out.len], by omega, by omega, by omega, by rw [← hl]; exact hB.out.byt.drop 4, by
    have hs := ((hB.out.see.below HBW.out).drop 4)
    rw [show (cellsU8 zs).drop 4 = cellsU8 (zs.drop 4) by simp [cellsU8], show (some (⟨b, off, none⟩ : Addr)).map (·.add 4) = some ⟨b, off + 4, none⟩ by simp [WideShapes.add_plain], hl] at hs
    exact hs.more (by omega)⟩)
  have ca := jlim_any g 24 l W JR0 (by omega)
  have cb := fun w h => jnum_any g l1 w h
  have cc := fun w h => jlim_any g 80 l2 w h (by omega)
  rw [hl1, hk, show ((24 : Nat) : Int) = 24 from rfl] at ca
  rw [hl2, hbd] at cb
  rw [hl3, hn, show ((80 : Nat) : Int) = 80 from rfl] at cc
  have HG := hide hg
  have hc4 : ¬ c0 = 4 := by omega
  have hkz : (0 : Int) ≤ (k : Int) := by omega
  have hkz2 : (k : Int) ≤ 24 := by omega
  clear hW hl1 hk hl2 hbd hl3 hn hl hB
  go_enter Tryd.func43, Tryd.ntmps43
  go_upto_region 2 with (fail)
  rw [HW.out]
  clear HW hg hnc hcm hc4
  go_wp2_with fail
  refine ca.mono ?_
  rintro e w1 ⟨rfl, hR, hG⟩
  have K1 := hide (show JK W g l1 w1 from ⟨hR, hG⟩)
  have hgW : g < W.heap.size := by omega
  have hgw : w.heap.size ≠ g := by have := HG.out; omega
  have Z1 := hide (Z0.out.grown hG (fun e => hgw (by injection e)))
  obtain ⟨T, hT⟩ : ∃ T, w1.heap.size = T := ⟨_, rfl⟩
  have HT := hide hT
  have hgT : g < T := by rw [← hT]; exact Nat.lt_of_lt_of_le hgW hG.size
  have hWT : W.heap.size ≤ T := by rw [← hT]; exact hG.size
  obtain ⟨W2, hW2⟩ : ∃ V, w1.alloc (.cells #[.int .i64 Al, .slice none 0 0] 47) = V := ⟨_, rfl⟩
  have HW2 := hide hW2
  have K2 := hide (show JK W g l1 W2 by rw [← hW2]; exact K1.out.alloc _)
  have Z2 := hide (show Row W2 w.heap.size 47 [.int .i64 0, .slice none 0 0] by rw [← hW2]; exact Z1.out.alloc _)
  have T2 := hide (show Row W2 T 47 [.int .i64 Al, .slice none 0 0] by rw [← hW2, ← hT]; exact Row.new w1 47 [.int .i64 Al, .slice none 0 0])
  clear hR hG ca hT hW2 K1 Z0 Z1 JR0
  have hAl2 := hide hAl
  clear hAl
  go_upto_region 3 with (fail)
  rw [hAl2.out, PW.out, HW2.out, HT.out]
  clear HW2 HT PW
  go_wp2_with fail
  refine (cb W2 (hide K2.out.r)).mono ?_
  rintro e w2 ⟨rfl, hR, hG⟩
  have K3 := hide (K2.out.to hR hG)
  have Z3 := hide (Z2.out.grown hG (fun e => hgw (by injection e)))
  have T3 := hide (T2.out.grown hG (fun e => by injection e with e; omega))
  clear hR hG cb K2 Z2 T2
  go_wp2_with fail
  refine (cc w2 (hide K3.out.r)).mono ?_
  rintro e w3 ⟨rfl, hR, hG⟩
  have K4 := hide (K3.out.to hR hG)
  have Z4 := hide (Z3.out.grown hG (fun e => hgw (by injection e)))
  have T4 := hide (T3.out.grown hG (fun e => by injection e with e; omega))
  obtain ⟨G, hGe⟩ : ∃ G, w3.heap.size = G := ⟨_, rfl⟩
  have hTG : T < G := by rw [← hGe]; exact T4.out.lt
  have hmk1 := hmk w3
  obtain ⟨W4, hW4⟩ : ∃ V, w3.alloc (.cells ((List.replicate n (⟨0, 0, none, 0, 0⟩ : Fd)).flatMap fdcell).toArray 83) = V := ⟨_, rfl⟩
  rw [hW4, hGe] at hmk1
  have K5 := hide (show JK W g l3 W4 by rw [← hW4]; exact K4.out.alloc _)
  have Z5 := hide (show Row W4 w.heap.size 47 [.int .i64 0, .slice none 0 0] by rw [← hW4]; exact Z4.out.alloc _)
  have T5 := hide (show Row W4 T 47 [.int .i64 Al, .slice none 0 0] by rw [← hW4]; exact T4.out.alloc _)
  have G5 := hide (show Row W4 G 83 (fdcells (List.replicate n (⟨0, 0, none, 0, 0⟩ : Fd))) by rw [← hW4, ← hGe]; exact Row.new w3 _ _)
  have y1 := T5.out.cell (k := 1) rfl
  have f1 := T5.out.free 1
  have hZ : w.heap.size < T := by have := HG.out; omega
  have FI := hide (show JReI w W g G T n Al l3 0 (W4.setCell ⟨T, 1, none⟩ (.slice (some ⟨G, 0, none⟩) n n)) from ⟨K5.out.set hWT hgW 1 _, T5.out.set_ 1 _, ⟨[], rfl, G5.out.far (p := ⟨T, 1, none⟩) (by simp; omega) _, ⟨rfl, fun k h f e _ => by simp at e⟩⟩, Z5.out.far (p := ⟨T, 1, none⟩) (by simp; omega) _⟩)
  obtain ⟨W6, hW6⟩ : ∃ V, W4.setCell ⟨T, 1, none⟩ (.slice (some ⟨G, 0, none⟩) n n) = V := ⟨_, rfl⟩
  have HW6 := hide hW6
  rw [hW6] at FI
  clear hR hG K3 Z3 T3 K4 Z4 T4 hmk cc hGe hW4 K5 Z5 T5 G5 hW6
  go_upto_region 5 with (fail)
  rw [HW6.out]
  clear HW6 hmk1 y1 f1
  have y1 := FI.out.t.cell (k := 1) rfl
  go_wp2_with fail
  clear y1
  go_loopw [7, 21] (fun _ iv wr => ∃ i : Nat, i ≤ n ∧ iv = .int .i64 (i : Int) ∧ Hid (JReI w W g G T n Al l3 i wr)) (fun _ iv _ => n - (intOf iv).toNat)
  case atStart => exact ⟨0, Nat.zero_le _, rfl, FI⟩
  case round =>
    obtain ⟨i, hin, rfl, hF⟩ := hrel
    clear FI
    by_cases hlt : i < n
    · have hlz : (i : Int) < (n : Int) := by omega
      have hiz : (0 : Int) ≤ (i : Int) := by omega
      have y0 := hF.out.t.cell (k := 0) rfl
      have y1 := hF.out.t.cell (k := 1) rfl
      have HSN := hide (timesL_snoc (frL Al) i l3)
      have ci := jframe_any g Al (timesL (frL Al) i l3).2 wr.drew (hide (hF.out.k.r.drewN 1))
      obtain ⟨hs, hhl, hrow, hfds⟩ := hF.out.r
      obtain ⟨L, hLL⟩ : ∃ L, (timesL (frL Al) i l3).1 = L := ⟨_, rfl⟩
      obtain ⟨li, hli⟩ : ∃ x, (timesL (frL Al) i l3).2 = x := ⟨_, rfl⟩
      rw [hLL, hli] at HSN
      rw [hli] at ci
      rw [hLL] at hfds
      have KI := hide (show JK W g li wr by rw [← hli]; exact hF.out.k)
      have TI := hide hF.out.t
      have GI := hide hrow
      have ZI := hide hF.out.z
      have DI := hide hfds
      have HL := hide hhl
      have hat := fill_at (z := (⟨0, 0, none, 0, 0⟩ : Fd)) hhl hlt
      obtain ⟨x, hx⟩ : ∃ x, frL Al li = x := ⟨_, rfl⟩
      unfold JFrPost at ci
      rw [hx] at HSN ci
      clear hLL hli hx hF hrow hfds hhl
      go_upto_region 8 with (fail)
      go_region_law
        (first
          | (go_simp; go_at_call 75; refine ci.mono ?_; rintro e w4 ⟨A1, n1, c1, rfl, hfd, hR, hG⟩; have y3 := (TI.out.drew.grown hG (fun e => by injection e with e; omega)).cell (k := 1) rfl; have R4 := GI.out.drew.grown hG (fun e => by injection e with e; omega); have hrow := fun j hj => flat_at fdcell_len _ i _ hat j hj; have a0 := R4.cell (hrow 0 (by omega)); have a1 := R4.cell (hrow 1 (by omega)); have a2 := R4.cell (hrow 2 (by omega)); rw [Nat.add_zero] at a0; have z0 := R4.free (i * 3); have z1 := R4.free (i * 3 + 1); have z2 := R4.free (i * 3 + 2); clear hrow))
      all_goals
        have R6 := ((R4.set_ (i * 3) (.int .i64 x.1.params)).set_ (i * 3 + 1) (.int .i64 x.1.size)).set_ (i * 3 + 2) (.slice A1 n1 c1)
        rw [fdcells_set hat, fill_set HL.out hlt] at R6
        have hq : W.heap.size ≤ G := by omega
        have hwr : wr.drew.heap.size = wr.heap.size := rfl
        have hGr : G < wr.heap.size := GI.out.lt
        have T4 := TI.out.drew.grown hG (fun e => by injection e with e; omega)
        have Z4 := ZI.out.drew.grown hG (fun e => hgw (by injection e))
        have K4 : JK W g x.2 w4 := (KI.out.drewN 1).to hR hG
        have D4 : Fds w4 (G + 1) w4.heap.size (hs ++ [⟨x.1.params, x.1.size, A1, n1, c1⟩]) (L ++ [x.1]) := by
          have D0 : Fds wr.drew (G + 1) wr.drew.heap.size hs L := DI.out.keep fun _ _ _ => rfl
          exact ((D0.grown hG (by omega) (Nat.le_refl _)).more hG.size (Nat.le_refl _)).snoc (hfd.more (Nat.le_refl _) (by omega))
        have HN := hide (show JReI w W g G T n Al l3 (i + 1) (((w4.setCell ⟨G, i * 3, none⟩ (.int .i64 x.1.params)).setCell ⟨G, i * 3 + 1, none⟩ (.int .i64 x.1.size)).setCell ⟨G, i * 3 + 2, none⟩ (.slice A1 n1 c1)) from by
          refine ⟨?_, ?_, ⟨hs ++ [⟨x.1.params, x.1.size, A1, n1, c1⟩], by rw [List.length_append, HL.out]; rfl, R6, ?_⟩, ?_⟩
          · rw [HSN.out]
            exact ((K4.set hq hgW (i * 3) (.int .i64 x.1.params)).set hq hgW (i * 3 + 1) (.int .i64 x.1.size)).set hq hgW (i * 3 + 2) (.slice A1 n1 c1)
          · exact ((T4.far (p := ⟨G, i * 3, none⟩) (by simp; omega) _).far (p := ⟨G, i * 3 + 1, none⟩) (by simp; omega) _).far (p := ⟨G, i * 3 + 2, none⟩) (by simp; omega) _
          · rw [HSN.out]
            refine (D4.keep fun p h1 _ => ?_).more (by simp [World.setCell]) (Nat.le_refl _)
            have hne : ∀ j, p ≠ ⟨G, j, none⟩ := fun j e => by subst e; simp at h1; omega
            rw [World.cell?_setCell_other _ _ _ _ (fun e => hne _ e.symm), World.cell?_setCell_other _ _ _ _ (fun e => hne _ e.symm), World.cell?_setCell_other _ _ _ _ (fun e => hne _ e.symm)]
          · exact ((Z4.far (p := ⟨G, i * 3, none⟩) (by simp; omega) _).far (p := ⟨G, i * 3 + 1, none⟩) (by simp; omega) _).far (p := ⟨G, i * 3 + 2, none⟩) (by simp; omega) _)
        clear hR hG R6 R4 hat T4 Z4 K4 D4 KI TI GI ZI DI ci y0 y1 y3 a0 a1 a2 z0 z1 z2 HSN HL hfd
        go_wp2_with fail
        go_roundw
        case rel => exact ⟨i + 1, by omega, by go_num, HN⟩
        case measure => simp [intOf]; omega
    · have hi2 : n = i := by omega
      subst hi2
      have hlz : ¬ ((n : Int) < (n : Int)) := by omega
      have x0 := hF.out.t.cell (k := 0) rfl
      have x1 := hF.out.t.cell (k := 1) rfl
      have r0 := hF.out.z.cell (k := 0) rfl
      have r1 := hF.out.z.cell (k := 1) rfl
      have q0 := hF.out.z.free 0
      have q1 := hF.out.z.free 1
      obtain ⟨hs, hhl, hrow, hfds⟩ := hF.out.r
      rw [Nat.sub_self, List.replicate_zero, List.append_nil] at hrow
      have hgr := hF.out.k.g
      have hf := hide ((hF.out.z.set_ 0 (.int .i64 Al)).set_ 1 (.slice (some ⟨G, 0, none⟩) n n))
      have hZw : w.heap.size < G + 1 := by omega
      have FIN := hide (show JRePost zs w (.returned (.tuple #[.agg #[.int .i64 Al, .slice (some ⟨G, 0, none⟩) n n], .int .i64 bd])) ((wr.setCell ⟨w.heap.size, 0, none⟩ (.int .i64 Al)).setCell ⟨w.heap.size, 1, none⟩ (.slice (some ⟨G, 0, none⟩) n n)) from by
        unfold JRePost
        rw [HF.out]
        have GR := (hrow.far (p := ⟨w.heap.size, 0, none⟩) (by simp; omega) (.int .i64 Al)).far (p := ⟨w.heap.size, 1, none⟩) (by simp; omega) (.slice (some ⟨G, 0, none⟩) n n)
        refine ⟨some ⟨G, 0, none⟩, n, n, hs, rfl, ⟨timesL_len _ _ _, ⟨(fun e => by cases e), Nat.le_refl _, by show n ≤ 8796093022208; omega⟩, (fun a ha => by injection ha with ha; subst ha; show w.heap.size ≤ G; omega), fun j u hu => ⟨G, 0, rfl, GR.lt, by rw [Nat.zero_add]; exact GR.cell hu⟩, ?_⟩, ?_⟩
        · refine ((hfds.keep fun p h1 _ => ?_).more (by simp [World.setCell]) (Nat.le_refl _)).more (Nat.le_refl _) (show w.heap.size ≤ G + 1 by omega)
          have hne : ∀ j, p ≠ ⟨w.heap.size, j, none⟩ := fun j e => by subst e; simp at h1; omega
          rw [World.cell?_setCell_other _ _ _ _ (fun e => hne _ e.symm), World.cell?_setCell_other _ _ _ _ (fun e => hne _ e.symm)]
        · have h0 : Below w.heap.size w wr := HBW.out.grown hgr HBW.out.size (fun k hk => by injection hk with hk; have := HG.out; omega)
          exact (h0.setCell (p := ⟨w.heap.size, 0, none⟩) (by simp) _).setCell (p := ⟨w.heap.size, 1, none⟩) (by simp) _)
      clear hlt hF hrow hfds hgr hhl
      go_wp2
      have f0 := hf.out.cell (k := 0) rfl
      have f1 := hf.out.cell (k := 1) rfl
      exact bodyPost_ret (v := .tuple #[.agg #[.int .i64 Al, .slice (some ⟨G, 0, none⟩) n n], .int .i64 bd]) (by simp [results, Tryd.results43, go_sem, f0, f1]) rfl FIN.out
end Go.Proofs.YtlkcjjalkdlicaaDoor
end
