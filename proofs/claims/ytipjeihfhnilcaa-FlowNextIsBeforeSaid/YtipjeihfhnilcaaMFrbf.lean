import Derived.Test.YtipjeihfhnilcaaMFbf
set_option linter.unusedVariables false
set_option linter.unusedSimpArgs false
section
/-
  The contract of the reference's Before: for each instruction the ones that it may follow. Conditions: those of the types; the function is right.
-/
namespace Go.Proofs.Ytipjeihfhnilcaa
open Go.RowKit

section
variable {P : Int} {A1 : Option Addr} {n1 c1 : Nat} {A2 : Option Addr} {n2 c2 : Nat} {l : List Ins} {w wr w2 : World} {vs : List Value} {zss : List (List Nat)}
theorem BfI.drew (h : BfI w P A1 n1 c1 A2 n2 c2 vs zss wr) : BfI w P A1 n1 c1 A2 n2 c2 vs zss wr.drew := ⟨h.l.drewN 1, h.f.drew, h.b.drew⟩
set_option maxRecDepth 100000 in
set_option maxHeartbeats 2000000 in
theorem rbefore_any (w : World) (hC : Hid (CdAt w A2 n2 l)) (hok : Hid (FlowOk l)) :
    Calls Try.prog 29 #[fv P A1 n1 c1 A2 n2 c2] w (ListsPost (befL l n2 n2 0) w) := by
  obtain ⟨i0, hi, hz0, hz1, hz2⟩ := info_parts infoI
  obtain ⟨j0, ji, jz0, jz1, jz2⟩ := info_parts infoS
  have hlen := hC.out.len
  have hn2 := hC.out.few
  have hmk := fmade2 (P := Try.prog) Try.underlying59 ji jz0 jz1 (by omega) rfl n2 (by omega) (L := nils n2) rfl
  have HL := hide hlen
  obtain ⟨W1, hW1⟩ : ∃ W, w.alloc (.cells #[.int .i64 P, .slice A1 n1 c1, .slice A2 n2 c2] 53) = W := ⟨_, rfl⟩
  have R1 := hide (show Row W1 w.heap.size 53 [.int .i64 P, .slice A1 n1 c1, .slice A2 n2 c2] by rw [← hW1]; exact Row.new w _ _)
  have hsz1 : W1.heap.size = w.heap.size + 1 := by rw [← hW1]; simp
  obtain ⟨W2, hW2⟩ : ∃ W, W1.alloc (.cells (nils n2).toArray 44) = W := ⟨_, rfl⟩
  have I2 := hide (show BfI w P A1 n1 c1 A2 n2 c2 (nils n2) (befL l n2 0 0) W2 by
    rw [befL_start, ← hW2]
    exact ⟨LLs.make ((Row.new W1 _ _).at_ hsz1) (by omega), R1.out.alloc _, by rw [← hW1]; exact below2 _ _ _⟩)
  have HW1 := hide hW1
  have HW2 := hide hW2
  have HS1 := hide hsz1
  clear hW1 hW2 hlen hsz1
  go_enter Try.func29, Try.ntmps29
  go_upto_region 1 with (fail)
  rw [HW1.out]
  have q2 := R1.out.cell (k := 2) rfl
  go_upto_region 2 with (fail)
  rw [HS1.out, HW2.out]
  clear q2 hmk HW1 HS1 HW2 R1
  have q2 := I2.out.f.cell (k := 2) rfl
  go_wp2_with fail
  clear q2
  go_loopw [4] (fun s4 wr => ∃ (m : Nat) (vs : List Value), s4 = .int .i64 (m : Int) ∧ m ≤ n2 ∧ Hid (BfI w P A1 n1 c1 A2 n2 c2 vs (befL l n2 m 0) wr)) (fun s4 _ => n2 - (intOf s4).toNat)
  case atStart => exact ⟨0, _, rfl, by omega, I2⟩
  case round =>
    obtain ⟨m, vs, rfl, hmn, hI⟩ := hrel
    by_cases hlt : m < n2
    · have hm64 : (m : Int) < (n2 : Int) := by omega
      have cn := rnext_any (P := P) (A1 := A1) (n1 := n1) (c1 := c1) (c2 := c2) (m : Int) wr (hide (hC.out.below hI.out.b)) hok.out
      rw [sucZ_nat] at cn
      have hXS := hide (fun (j : Nat) (h : j ∈ suc l m) => suc_lt hok.out h)
      have hX2 := hide (suc_len l m)
      have hNX := hide (befL_next l n2 m)
      obtain ⟨xs, hxs⟩ : ∃ xs, suc l m = xs := ⟨_, rfl⟩
      rw [hxs] at cn hXS hX2 hNX
      have HXS := hide hxs
      have q0 := hI.out.f.cell (k := 0) rfl
      have q1 := hI.out.f.cell (k := 1) rfl
      have q2 := hI.out.f.cell (k := 2) rfl
      clear hxs I2
      go_wp2_with fail
      refine cn.mono ?_
      rintro e w5 ⟨A5, c5, rfl, ho5, hb5⟩
      have I5 := hide (hI.out.call hb5)
      have N5 := hide (show w5.ownsRow wr.heap.size 3 1 (.slice A5 xs.length c5) xs.length (cellsI (toI xs)) by rw [toI_len] at ho5; exact ho5)
      have D5 := hide (hI.out.apart N5.out)
      have N5 := hide (own_lower N5.out (show w.heap.size ≤ wr.heap.size from hI.out.b.size))
      rw [toI_len]
      clear hb5 ho5 cn q0 q1 q2 hI
      go_wp2_with fail
      go_loopw [6] (fun s6 wq => ∃ (i : Nat) (vs : List Value), s6 = .int .i64 (i : Int) ∧ i ≤ xs.length ∧ Hid (BfI w P A1 n1 c1 A2 n2 c2 vs (befL l n2 m i) wq) ∧ Hid (wq.ownsRow w.heap.size 3 1 (.slice A5 xs.length c5) xs.length (cellsI (toI xs))) ∧ Hid (Dis (.slice A5 xs.length c5) vs)) (fun s6 _ => xs.length - (intOf s6).toNat)
      case atStart => exact ⟨0, vs, rfl, by omega, I5, N5, D5⟩
      case round =>
        obtain ⟨i, vs2, rfl, hix, hI, hN, hD⟩ := hrel
        clear I5 N5 D5
        have hx2 : xs.length ≤ 2 := hX2.out
        by_cases hlt2 : i < xs.length
        · obtain ⟨g5, c5', he5, -, -, -, -⟩ := own_block hN.out (by omega)
          injection he5 with he5 _ he5c
          subst he5 he5c
          have hjx := List.getElem?_eq_getElem hlt2
          have hjm := List.getElem_mem hlt2
          have x0 : wr.cell? ⟨g5, i, none⟩ = some (.int .i64 ((xs[i] : Nat) : Int)) := by
            rw [hN.out.cellAt i (by omega), cellsI, List.getElem?_map, toI_get, hjx]; rfl
          have hjc : (cellsI (toI xs))[i]? = some (.int .i64 ((xs[i] : Nat) : Int)) := by
            rw [cellsI, List.getElem?_map, toI_get, hjx]; rfl
          have HJC := hide hjc
          have hjn : xs[i] < n2 := by have h1 := hXS.out xs[i] hjm; have h2 := HL.out; omega
          have HJ := hide (show (suc l m)[i]? = some xs[i] by rw [HXS.out]; exact hjx)
          clear hjc
          generalize xs[i] = j at x0 hjn HJ HJC
          have hz := befL_fresh (l := l) (n := n2) HJ.out hjn
          obtain ⟨Aj, cj, hv, z0, hoj⟩ := hI.out.l.at2 hz
          have hnj := befN_len l m j
          have HAP := hide (fun (w2 : World) (g' cap' : Nat) (ho : w2.ownsRow w.heap.size 3 1 (.slice (some ⟨g', 0, none⟩) ((befN l m j).length + 1) cap') ((befN l m j).length + 1) (cellsI (toI (befN l m j)) ++ [.int .i64 (m : Int)])) (hg : (wr.drew.alloc (.cells #[.int .i64 (m : Int)] 3)).grownBy w2 (Value.slice Aj (befN l m j).length cj).ownBlock) (hw : (Value.slice Aj (befN l m j).length cj).ownBlock = some g' ∨ g' = wr.heap.size + 1) =>
            (hI.out.drew).app hv hz (by omega) ho hg (fun k hk => by
              simp only [Value.ownBlock, Option.some.injEq] at hk
              subst hk
              simpa using hw) hN.out hD.out)
          rw [← befL_step HJ.out hjn] at HAP
          have HO := hide hoj
          obtain ⟨zs, hzs⟩ : ∃ zs, befN l m j = zs := ⟨_, rfl⟩
          rw [hzs] at hz hv z0 hnj HAP HO
          have HSZ := hide hI.out.b.size
          have hi0 : (0 : Int) ≤ (i : Int) := by omega
          have hin : (i : Int) < (xs.length : Int) := by omega
          have hjj0 : (0 : Int) ≤ (j : Int) := by omega
          have hjjn : (j : Int) < (n2 : Int) := by omega
          clear hjx hjm hz hzs hv hoj
          have z1 := hI.out.l.row.free j
          have HO2 := hide (show (wr.drew.alloc (.cells #[.int .i64 (m : Int)] 3)).ownsRow w.heap.size 3 1 (.slice Aj zs.length cj) zs.length (cellsI (toI zs)) from (show wr.drew.ownsRow w.heap.size 3 1 (.slice Aj zs.length cj) zs.length (cellsI (toI zs)) from HO.out).alloc _)
          have NW := hide (one_new wr.drew (.int .i64 (m : Int)) 3)
          go_upto_region 9 with (fail)
          have za := keep_cellB (below1 wr (.cells #[.int .i64 (m : Int)] 3)) z0
          have xa := keep_cellB (below1 wr (.cells #[.int .i64 (m : Int)] 3)) x0
          go_region_law (refine step_append_lies _ rfl (.tmp 38) (.tmp 40) 44 rfl w.heap.size 3 i0 (.int .i64 0) 1 8 Try.underlying44 hi hz0 hz1 hz2 rfl (by decide) (.slice Aj zs.length cj) zs.length (cellsI (toI zs)) (by simp [Act.eval, Act.put]) HO2.out ⟨wr.heap.size, 0, none⟩ 1 1 [.int .i64 (m : Int)] (by simp [Act.eval, Act.put]) rfl NW.out (one_cell _) (by decide) (by unfold maxLen; omega) (by omega) (Nat.le_trans HSZ.out (by simp)) _ rfl ?_; intro g7 cap7 w7 ho7 hg7 hw7 hlt7; obtain ⟨ia, ib, ic, y1, y2, y3⟩ := HAP.out w7 g7 cap7 ho7 hg7 (by simpa using hw7); have y4 : w7.cell? ⟨g5, i, none⟩ = some (.int .i64 (j : Int)) := (y3.cellAt i (by omega)).trans HJC.out)
          all_goals
            have I7 := hide ia
            have N7 := hide ib
            have D7 := hide ic
            clear ia ib ic y3 y4 ho7 hg7 hw7 HAP hI hN hD z0 z1 x0 za xa HO HO2 NW
            go_wp2_with fail
            go_roundw
            case rel => exact ⟨i + 1, _, by go_num, by omega, I7, N7, D7⟩
            case measure => simp [intOf]; omega
        · obtain rfl : i = xs.length := by omega
          have I8 := hide (show BfI w P A1 n1 c1 A2 n2 c2 vs2 (befL l n2 (m + 1) 0) wr by rw [← hNX.out]; exact hI.out)
          clear hI hN hD
          go_wp2_with fail
          go_roundw
          case rel => exact ⟨m + 1, vs2, by go_num, by omega, I8⟩
          case measure => simp [intOf]; omega
    · obtain rfl : m = n2 := by omega
      have FIN := hide (show ListsPost (befL l m m 0) w (.returned (.slice (some ⟨w.heap.size + 1, 0, none⟩) m m)) wr from ⟨w.heap.size + 1, vs, by rw [befL_len], hI.out.l, hI.out.b⟩)
      have q2 := hI.out.f.cell (k := 2) rfl
      clear hI I2
      go_wp2_with fail
      go_ret
      exact FIN.out
end
end Go.Proofs.Ytipjeihfhnilcaa
end
