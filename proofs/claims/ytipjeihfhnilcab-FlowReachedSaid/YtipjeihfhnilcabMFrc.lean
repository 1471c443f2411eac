import Derived.Test.YtipjeihfhnilcabMFnx
import Derived.Test.YtipjeihfhnilcabMFrn
import Derived.Test.YtipjeihfhnilcabMFlds
import Derived.Test.YtipjeihfhnilcabMFfun
import Derived.Test.YtipjeihfhnilcabMLaw
import Derived.Deep.LoopGhost
set_option linter.unusedVariables false
set_option linter.unusedSimpArgs false
section
/-
  The contract of flow.Reached: which instructions there is a way to, as bools. Conditions: those of the types; the function is right and has an instruction.
-/
namespace Go.Proofs.Ytipjeihfhnilcab
open Go.RowKit

theorem IntRel.far {w wr : World} {l : List Int} {v u : Value} {G t k : Nat} {cs : List Value} (h : IntRel w l v wr) (hr : Row wr G t cs) (ht : t ≠ 3) (hG : w.heap.size ≤ G) : IntRel w l v (wr.setCell ⟨G, k, none⟩ u) :=
  ⟨h.1.kept (fgrown_set wr G k u) (fown_apart h.1 hr ht), h.2.setCell (p := ⟨G, k, none⟩) hG _⟩
/-- The reached ones, in a row of the call's own. -/
def RchPost (l : List Ins) (n : Nat) (w : World) (e : Ending) (w' : World) : Prop := ∃ R, IsRch (suc l) n R ∧ BoolsPost R w e w'
/-- What the search keeps in memory. -/
structure RcI (w : World) (P : Int) (A1 : Option Addr) (n1 c1 : Nat) (A2 : Option Addr) (n2 c2 : Nat) (R : List Bool) (st : List Nat) (v : Value) (wr : World) : Prop where
  i : IntRel w (toI st) v wr
  g : Row wr (w.heap.size + 1) 4 (bcells R)
  f : Row wr w.heap.size 27 [.int .i64 P, .slice A1 n1 c1, .slice A2 n2 c2]
section
variable {P : Int} {A1 : Option Addr} {n1 c1 : Nat} {A2 : Option Addr} {n2 c2 : Nat} {l : List Ins} {w wr w2 : World} {R : List Bool} {st : List Nat} {v : Value}
theorem RcI.call (h : RcI w P A1 n1 c1 A2 n2 c2 R st v wr) (hb : Below wr.heap.size wr w2) : RcI w P A1 n1 c1 A2 n2 c2 R st v w2 := ⟨h.i.call hb, h.g.call hb, h.f.call hb⟩
theorem RcI.set (h : RcI w P A1 n1 c1 A2 n2 c2 R st v wr) (j : Nat) : RcI w P A1 n1 c1 A2 n2 c2 (R.set j true) st v (wr.setCell ⟨w.heap.size + 1, j, none⟩ (.bool true)) :=
  ⟨h.i.far h.g fbt_ne (by omega), by rw [← bcells_set]; exact h.g.set_ j (.bool true), h.f.far (p := ⟨w.heap.size + 1, j, none⟩) (by simp) _⟩
theorem RcI.push {j : Nat} {v' : Value} {o : Obj} (h : RcI w P A1 n1 c1 A2 n2 c2 R st v wr) (ho : w2.ownsRow w.heap.size 3 1 v' ((toI st).length + 1) (cellsI (toI st) ++ [.int .i64 (j : Int)])) (hg : (wr.alloc o).grownBy w2 v.ownBlock) : RcI w P A1 n1 c1 A2 n2 c2 R (st ++ [j]) v' w2 :=
  ⟨by rw [toI_append]; exact IntRel.step (hide h.i) ho hg, h.g.append h.i.1 fbt_ne hg, h.f.append h.i.1 (by decide) hg⟩
set_option maxRecDepth 100000 in
set_option maxHeartbeats 4000000 in
theorem reached_any (w : World) (hC : Hid (CdAt w A2 n2 l)) (hok : Hid (FlowOk l)) (hn1 : 1 ≤ n2) :
    Calls Try.prog 8 #[fv P A1 n1 c1 A2 n2 c2] w (RchPost l n2 w) := by
  obtain ⟨i0, hi, hz0, hz1, hz2⟩ := info_parts infoI
  obtain ⟨j0, ji, jz0, jz1, jz2⟩ := info_parts infoB
  have hlen := hC.out.len
  have hn2 := hC.out.few
  have hmk := fmade (P := Try.prog) Try.underlying31 ji jz0 jz1 (by omega) rfl n2 (by omega) (by rw [← bcells_rep])
  have HL := hide hlen
  obtain ⟨W1, hW1⟩ : ∃ W, w.alloc (.cells #[.int .i64 P, .slice A1 n1 c1, .slice A2 n2 c2] 27) = W := ⟨_, rfl⟩
  have R1 := hide (show Row W1 w.heap.size 27 [.int .i64 P, .slice A1 n1 c1, .slice A2 n2 c2] by rw [← hW1]; exact Row.new w _ _)
  have hsz1 : W1.heap.size = w.heap.size + 1 := by rw [← hW1]; simp
  obtain ⟨W2, hW2⟩ : ∃ W, W1.alloc (.cells (bcells (List.replicate n2 false)).toArray 4) = W := ⟨_, rfl⟩
  have G2 := hide (show Row W2 (w.heap.size + 1) 4 (bcells (List.replicate n2 false)) by rw [← hW2]; exact (Row.new W1 _ _).at_ hsz1)
  have F2 := hide (show Row W2 w.heap.size 27 [.int .i64 P, .slice A1 n1 c1, .slice A2 n2 c2] by rw [← hW2]; exact R1.out.alloc _)
  have B2 := hide (show Below w.heap.size w W2 by rw [← hW2, ← hW1]; exact below2 _ _ _)
  obtain ⟨W3, hW3⟩ : ∃ W, W2.setCell ⟨w.heap.size + 1, 0, none⟩ (.bool true) = W := ⟨_, rfl⟩
  have G3 := hide (show Row W3 (w.heap.size + 1) 4 (bcells ((List.replicate n2 false).set 0 true)) by rw [← hW3, ← bcells_set]; exact G2.out.set_ 0 _)
  have F3 := hide (show Row W3 w.heap.size 27 [.int .i64 P, .slice A1 n1 c1, .slice A2 n2 c2] by rw [← hW3]; exact F2.out.far (p := ⟨w.heap.size + 1, 0, none⟩) (by simp) _)
  have B3 := hide (show Below w.heap.size w W3 by rw [← hW3]; exact B2.out.setCell (p := ⟨w.heap.size + 1, 0, none⟩) (by simp) _)
  obtain ⟨W4, hW4⟩ : ∃ W, W3.alloc (.cells #[.int .i64 0] 3) = W := ⟨_, rfl⟩
  have I4 := hide (show RcI w P A1 n1 c1 A2 n2 c2 ((List.replicate n2 false).set 0 true) [0] (.slice (some ⟨W3.heap.size, 0, none⟩) 1 1) W4 from
    ⟨IntRel.lit B3.out (toI [0]) 1 rfl (by omega) #[.int .i64 0] rfl hW4, by rw [← hW4]; exact G3.out.alloc _, by rw [← hW4]; exact F3.out.alloc _⟩)
  have HW1 := hide hW1
  have HW2 := hide hW2
  have HW3 := hide hW3
  have HW4 := hide hW4
  have HS1 := hide hsz1
  have hnz : ((n2 : Int) == 0) = false := by rw [beq_eq_false_iff_ne]; omega
  have hn0 : (0 : Int) < (n2 : Int) := by omega
  have hcf : ((List.replicate n2 false).set 0 true).count false + 1 = n2 := by
    rw [count_set (by rw [List.getElem?_replicate, if_pos (by omega)])]; simp
  have HCF := hide hcf
  clear hW1 hW2 hW3 hW4 hlen hsz1 hcf
  go_enter Try.func8, Try.ntmps8
  go_upto_region 1 with (fail)
  rw [HW1.out]
  have q2 := R1.out.cell (k := 2) rfl
  go_upto_region 2 with (fail)
  rw [HS1.out, HW2.out]
  clear q2 hmk HW1 HS1 HW2 R1
  have z0 := G2.out.cell (k := 0) (bcells_at (l := List.replicate n2 false) (k := 0) (b := false) (by rw [List.getElem?_replicate, if_pos (by omega)]))
  have z1 := G2.out.free 0
  go_upto_region 5 with (fail)
  rw [HW3.out]
  clear z0 z1 HW3 G2 F2 B2
  go_upto_region 6 with (fail)
  rw [HW4.out]
  clear HW4 G3 F3 B3
  go_loopg [4] (2 * n2) (fun gg s4 wr => ∃ (R : List Bool) (st : List Nat), Hid (SchI (suc l) n2 R st) ∧ Hid (RcI w P A1 n1 c1 A2 n2 c2 R st s4 wr) ∧ st.length + R.count false ≤ n2 ∧ 2 * R.count false + st.length ≤ gg)
  case atStart => exact ⟨_, [0], hide (SchI.start (by omega)), I4, by have := HCF.out; simp only [List.length_cons, List.length_nil]; omega, by have := HCF.out; simp only [List.length_cons, List.length_nil]; omega⟩
  case round =>
    obtain ⟨R, st, hS, hI, hc1, hc2⟩ := hrel
    clear I4
    rcases List.eq_nil_or_concat st with rfl | ⟨st', k, rfl⟩
    · obtain ⟨A4, c4, rfl, -, -⟩ := own_form hI.out.i.1
      have FIN := hide (show RchPost l n2 w (.returned (.slice (some ⟨w.heap.size + 1, 0, none⟩) n2 n2)) wr from ⟨R, hS.out.end_, w.heap.size + 1, by rw [hS.out.len], hI.out.g, by omega, hI.out.i.2⟩)
      clear hS hI
      go_wp2_with fail
      go_ret
      exact FIN.out
    · rw [List.concat_eq_append] at hS hI hc1 hc2
      rw [List.length_append, List.length_singleton] at hc1 hc2
      have ho : wr.ownsRow w.heap.size 3 1 u4 (st'.length + 1) (cellsI (toI st') ++ [.int .i64 (k : Int)]) := by
        have h := hI.out.i.1
        rw [toI_append, cellsI_append, List.length_append, toI_len] at h
        exact h
      obtain ⟨g4, c4, rfl, hbg, hgl, hcap, -⟩ := own_block ho (by omega)
      have x0 : wr.cell? ⟨g4, st'.length, none⟩ = some (.int .i64 (k : Int)) := by
        rw [ho.cellAt st'.length (by omega), List.getElem?_append_right (by rw [cellsI_length, toI_len]; exact Nat.le_refl _), cellsI_length, toI_len, Nat.sub_self]; rfl
      have I4 := hide (show RcI w P A1 n1 c1 A2 n2 c2 R st' (.slice (some ⟨g4, 0, none⟩) st'.length c4) wr from ⟨⟨by
        have h2 := own_shrink1 ho
        rw [List.take_left' (by rw [cellsI_length, toI_len])] at h2
        rw [toI_len]; exact h2, hI.out.i.2⟩, hI.out.g, hI.out.f⟩)
      have HK := hide hS.out.pop
      have cn := fnext_any (P := P) (A1 := A1) (n1 := n1) (c1 := c1) (c2 := c2) (k : Int) wr (hide (hC.out.below hI.out.i.2)) hok.out
      rw [sucZ_nat] at cn
      have hXS := hide (fun (j : Nat) (h : j ∈ suc l k) => suc_lt hok.out h)
      have hX2 := hide (suc_len l k)
      obtain ⟨xs, hxs⟩ : ∃ xs, suc l k = xs := ⟨_, rfl⟩
      rw [hxs] at cn hXS hX2
      have HXS := hide hxs
      have hst0 : (0 : Int) ≤ (st'.length : Int) := by omega
      have hstc : (st'.length : Int) ≤ (c4 : Int) := by omega
      have hwl : IntKind.i64.wrap ((st'.length : Int) + 1 - 1) = (st'.length : Int) := by rw [IntKind.wrap_i64]; omega
      have HG4 := hide (show g4 < wr.heap.size from hgl)
      have q0 := I4.out.f.cell (k := 0) rfl
      have q1 := I4.out.f.cell (k := 1) rfl
      have q2 := I4.out.f.cell (k := 2) rfl
      clear hxs ho hS hI hgl hbg
      go_wp2_with fail
      refine cn.mono ?_
      rintro e w5 ⟨A5, c5, rfl, ho5, hb5⟩
      have I5 := hide (I4.out.call hb5)
      have N5 := hide (show w5.ownsRow wr.heap.size 3 1 (.slice A5 xs.length c5) xs.length (cellsI (toI xs)) by rw [toI_len] at ho5; exact ho5)
      have D5 := hide (show ∀ b, (Value.slice A5 xs.length c5).ownBlock = some b → (Value.slice (some ⟨g4, 0, none⟩) st'.length c4).ownBlock ≠ some b from fun b hb e => by
        have h1 := (N5.out.lt b hb).1
        have h2 : g4 = b := by simpa [Value.ownBlock] using e
        have h3 := HG4.out
        omega)
      have N5 := hide (own_lower N5.out (show w.heap.size ≤ wr.heap.size from I4.out.i.2.size))
      rw [toI_len]
      clear hb5 ho5 cn q0 q1 q2 x0 I4 hwl HG4
      go_wp2_with fail
      go_loopw [4, 37] (fun s4 s37 wq => ∃ (i : Nat) (R : List Bool) (st : List Nat), s37 = .int .i64 (i : Int) ∧ i ≤ xs.length ∧ Hid (SchK (suc l) n2 k i R st) ∧ Hid (RcI w P A1 n1 c1 A2 n2 c2 R st s4 wq) ∧ st.length + R.count false ≤ n2 ∧ 2 * R.count false + st.length + 1 ≤ gk ∧
        Hid (wq.ownsRow w.heap.size 3 1 (.slice A5 xs.length c5) xs.length (cellsI (toI xs))) ∧ Hid (∀ b, (Value.slice A5 xs.length c5).ownBlock = some b → s4.ownBlock ≠ some b)) (fun _ s37 _ => xs.length - (intOf s37).toNat)
      case atStart => exact ⟨0, R, st', rfl, by omega, HK, I5, by omega, by omega, N5, D5⟩
      case round =>
        obtain ⟨i, R2, st2, rfl, hix, hK, hI, hd1, hd2, hN, hD⟩ := hrel
        clear I5 N5 D5 HK
        have hx2 : xs.length ≤ 2 := hX2.out
        by_cases hlt : i < xs.length
        · obtain ⟨g5, c5', he5, -, -, -, -⟩ := own_block hN.out (by omega)
          injection he5 with he5 _ he5c
          subst he5 he5c
          have hjx := List.getElem?_eq_getElem hlt
          have hjm := List.getElem_mem hlt
          have x0 : wr.cell? ⟨g5, i, none⟩ = some (.int .i64 ((xs[i] : Nat) : Int)) := by
            rw [hN.out.cellAt i (by omega), cellsI, List.getElem?_map, toI_get, hjx]; rfl
          have hjn := hXS.out xs[i] hjm
          have HJ := hide (show (suc l k)[i]? = some xs[i] by rw [HXS.out]; exact hjx)
          generalize xs[i] = j at x0 hjn HJ
          have hj2 : j < R2.length := by rw [hK.out.len, ← HL.out]; exact hjn
          have hi0 : (0 : Int) ≤ (i : Int) := by omega
          have hin : (i : Int) < (xs.length : Int) := by omega
          have hjj0 : (0 : Int) ≤ (j : Int) := by omega
          have hjjn : (j : Int) < (n2 : Int) := by have := HL.out; omega
          clear hjx hjm hjn
          rcases bool_get hj2 with hr | hr
          · have z0 := hI.out.g.cell (bcells_at hr)
            have K2 := hide (hK.out.old HJ.out hr)
            clear hr
            go_wp2_with fail
            go_roundw
            case rel => exact ⟨i + 1, R2, st2, by go_num, by omega, K2, hI, hd1, hd2, hN, hD⟩
            case measure => simp [intOf]; omega
          · have z0 := hI.out.g.cell (bcells_at hr)
            have z1 := hI.out.g.free j
            have K2 := hide (hK.out.new HJ.out hr)
            have hcs := count_set hr
            obtain ⟨W6, hW6⟩ : ∃ W, wr.setCell ⟨w.heap.size + 1, j, none⟩ (.bool true) = W := ⟨_, rfl⟩
            have I6 := hide (show RcI w P A1 n1 c1 A2 n2 c2 (R2.set j true) st2 u4 W6 by rw [← hW6]; exact hI.out.set j)
            have N6 := hide (show W6.ownsRow w.heap.size 3 1 (.slice (some ⟨g5, 0, none⟩) xs.length c5) xs.length (cellsI (toI xs)) by rw [← hW6]; exact hN.out.kept (fgrown_set _ _ _ _) (fown_apart hN.out hI.out.g fbt_ne))
            have HW6 := hide hW6
            have HSZ := hide I6.out.i.2.size
            clear hr hW6 hI hN
            go_upto_region 14 with (fail)
            rw [HW6.out]
            clear z0 z1 HW6 x0
            go_upto_region 15 with (at_builtin; refine wpList_append_where rfl (.tmp 49) (.tmp 51) 38 rfl w.heap.size 3 i0 (.int .i64 0) 1 8 Try.underlying38 hi hz0 hz1 hz2 rfl (by decide) _ (toI st2).length (cellsI (toI st2)) rfl (I6.out.i.1.alloc _) ⟨W6.heap.size, 0, none⟩ 1 1 [.int .i64 (j : Int)] rfl rfl (one_new _ _ _) (one_cell _) (by rw [toI_len]; unfold maxLen; omega) (by rw [toI_len]; omega) (Nat.le_trans HSZ.out (by simp)) ?_)
            intro v7 w7 ho7 hg7 hw7
            have I7 := hide (I6.out.push ho7 hg7)
            have N7 := hide (show w7.ownsRow w.heap.size 3 1 (.slice (some ⟨g5, 0, none⟩) xs.length c5) xs.length (cellsI (toI xs)) from (N6.out.alloc _).kept hg7 (.inr (fun e => hD.out g5 rfl e.symm)))
            have D7 := hide (show ∀ b, (Value.slice (some ⟨g5, 0, none⟩) xs.length c5).ownBlock = some b → v7.ownBlock ≠ some b from fun b hb e => by
              rcases hw7 b e with h | h
              · exact hD.out b hb h
              · have h1 := (N6.out.lt b hb).2
                have h2 : (W6.alloc (.cells #[.int .i64 (j : Int)] 3)).heap.size = W6.heap.size + 1 := by simp
                omega)
            clear ho7 hg7 hw7 I6 N6 hD
            go_wp2_with fail
            go_roundw
            case rel => exact ⟨i + 1, R2.set j true, st2 ++ [j], by go_num, by omega, K2, I7, by rw [List.length_append, List.length_singleton]; omega, by rw [List.length_append, List.length_singleton]; omega, N7, D7⟩
            case measure => simp [intOf]; omega
        · obtain rfl : i = xs.length := by omega
          have HS2 := hide (show SchI (suc l) n2 R2 st2 by have h := hK.out; rw [← HXS.out] at h; exact h.over)
          clear hK hN hD
          go_wp2_with fail
          go_roundg (gk - 1)
          case rel => exact ⟨R2, st2, HS2, hI, hd1, by omega⟩
          case measure => omega
end
end Go.Proofs.Ytipjeihfhnilcab
end

section
/-
  The contract of the reference's Reached (chapter 13). Conditions: those of the types; the function is right and has an instruction.
-/
namespace Go.Proofs.Ytipjeihfhnilcab
open Go.RowKit

/-- What it keeps in memory. -/
structure RrI (w : World) (P : Int) (A1 : Option Addr) (n1 c1 : Nat) (A2 : Option Addr) (n2 c2 : Nat) (R : List Bool) (wr : World) : Prop where
  g : Row wr (w.heap.size + 1) 4 (bcells R)
  f : Row wr w.heap.size 27 [.int .i64 P, .slice A1 n1 c1, .slice A2 n2 c2]
  b : Below w.heap.size w wr
section
variable {P : Int} {A1 : Option Addr} {n1 c1 : Nat} {A2 : Option Addr} {n2 c2 : Nat} {l : List Ins} {w wr w2 : World} {R : List Bool}
theorem RrI.call (h : RrI w P A1 n1 c1 A2 n2 c2 R wr) (hb : Below wr.heap.size wr w2) : RrI w P A1 n1 c1 A2 n2 c2 R w2 := ⟨h.g.call hb, h.f.call hb, below_call h.b hb⟩
theorem RrI.set (h : RrI w P A1 n1 c1 A2 n2 c2 R wr) (j : Nat) : RrI w P A1 n1 c1 A2 n2 c2 (R.set j true) (wr.setCell ⟨w.heap.size + 1, j, none⟩ (.bool true)) :=
  ⟨by rw [← bcells_set]; exact h.g.set_ j (.bool true), h.f.far (p := ⟨w.heap.size + 1, j, none⟩) (by simp) _, h.b.setCell (p := ⟨w.heap.size + 1, j, none⟩) (by simp) _⟩
/-- What a pass keeps: R0 was there at its beginning. -/
structure Pas (S : Nat → List Nat) (n : Nat) (R0 R : List Bool) (ag : Bool) (k i : Nat) : Prop where
  fp : FpI S n R
  sh : ag = false → Shut S R k i
  le : R.count false ≤ R0.count false
  lt : ag = true → R.count false < R0.count false
set_option maxRecDepth 100000 in
set_option maxHeartbeats 4000000 in
theorem rreached_any (w : World) (hC : Hid (CdAt w A2 n2 l)) (hok : Hid (FlowOk l)) (hn1 : 1 ≤ n2) :
    Calls Try.prog 9 #[fv P A1 n1 c1 A2 n2 c2] w (RchPost l n2 w) := by
  obtain ⟨j0, ji, jz0, jz1, jz2⟩ := info_parts infoB
  have hlen := hC.out.len
  have hn2 := hC.out.few
  have hmk := fmade (P := Try.prog) Try.underlying31 ji jz0 jz1 (by omega) rfl n2 (by omega) (by rw [← bcells_rep])
  have HL := hide hlen
  obtain ⟨W1, hW1⟩ : ∃ W, w.alloc (.cells #[.int .i64 P, .slice A1 n1 c1, .slice A2 n2 c2] 27) = W := ⟨_, rfl⟩
  have R1 := hide (show Row W1 w.heap.size 27 [.int .i64 P, .slice A1 n1 c1, .slice A2 n2 c2] by rw [← hW1]; exact Row.new w _ _)
  have hsz1 : W1.heap.size = w.heap.size + 1 := by rw [← hW1]; simp
  obtain ⟨W2, hW2⟩ : ∃ W, W1.alloc (.cells (bcells (List.replicate n2 false)).toArray 4) = W := ⟨_, rfl⟩
  have I2 := hide (show RrI w P A1 n1 c1 A2 n2 c2 (List.replicate n2 false) W2 from
    ⟨by rw [← hW2]; exact (Row.new W1 _ _).at_ hsz1, by rw [← hW2]; exact R1.out.alloc _, by rw [← hW2, ← hW1]; exact below2 _ _ _⟩)
  obtain ⟨W3, hW3⟩ : ∃ W, W2.setCell ⟨w.heap.size + 1, 0, none⟩ (.bool true) = W := ⟨_, rfl⟩
  have I3 := hide (show RrI w P A1 n1 c1 A2 n2 c2 ((List.replicate n2 false).set 0 true) W3 by rw [← hW3]; exact I2.out.set 0)
  have HW1 := hide hW1
  have HW2 := hide hW2
  have HW3 := hide hW3
  have HS1 := hide hsz1
  have hnz : ((n2 : Int) == 0) = false := by rw [beq_eq_false_iff_ne]; omega
  have hn0 : (0 : Int) < (n2 : Int) := by omega
  have hn0d : decide (0 < n2) = true := decide_eq_true (by omega)
  have hcf : ((List.replicate n2 false).set 0 true).count false + 1 = n2 := by
    rw [count_set (by rw [List.getElem?_replicate, if_pos (by omega)])]; simp
  have HCF := hide hcf
  clear hW1 hW2 hW3 hlen hsz1 hcf
  go_enter Try.func9, Try.ntmps9
  go_upto_region 1 with (fail)
  rw [HW1.out]
  have q2 := R1.out.cell (k := 2) rfl
  go_upto_region 2 with (fail)
  rw [HS1.out, HW2.out]
  clear q2 hmk HW1 HS1 HW2 R1
  have z0 := I2.out.g.cell (k := 0) (bcells_at (l := List.replicate n2 false) (k := 0) (b := false) (by rw [List.getElem?_replicate, if_pos (by omega)]))
  have z1 := I2.out.g.free 0
  go_upto_region 4 with (fail)
  rw [HW3.out]
  clear z0 z1 HW3 I2
  go_upto_region 5 with (fail)
  go_loopg [4] (n2 + 1) (fun gg s4 wr => ∃ (R : List Bool) (ag : Bool), s4 = .bool ag ∧ Hid (FpI (suc l) n2 R) ∧ Hid (ag = false → Shut (suc l) R n2 0) ∧ Hid (RrI w P A1 n1 c1 A2 n2 c2 R wr) ∧ (ag = true → R.count false + 1 ≤ gg))
  case atStart => exact ⟨_, true, rfl, hide (FpI.start (by omega)), hide (fun e => by cases e), I3, fun _ => by have := HCF.out; omega⟩
  case round =>
    obtain ⟨R0, ag0, rfl, hF, hSh, hI, hgg⟩ := hrel
    clear I3
    cases ag0 with
    | false =>
      have FIN := hide (show RchPost l n2 w (.returned (.slice (some ⟨w.heap.size + 1, 0, none⟩) n2 n2)) wr from ⟨R0, hF.out.end_ (hSh.out rfl), w.heap.size + 1, by rw [hF.out.len], hI.out.g, by omega, hI.out.b⟩)
      clear hF hSh hI hgg
      go_wp2_with fail
      go_ret
      exact FIN.out
    | true =>
      have hg1 := hgg rfl
      clear hgg hSh
      have PS0 := hide (show Pas (suc l) n2 R0 R0 false 0 0 from ⟨hF.out, fun _ => Shut.start, Nat.le_refl _, fun e => by cases e⟩)
      go_wp2_with fail
      go_loopw [4, 5] (fun s4 s5 wr => ∃ (k : Nat) (R : List Bool) (ag : Bool), s4 = .bool ag ∧ s5 = .int .i64 (k : Int) ∧ k ≤ n2 ∧ Hid (Pas (suc l) n2 R0 R ag k 0) ∧ Hid (RrI w P A1 n1 c1 A2 n2 c2 R wr)) (fun _ s5 _ => n2 - (intOf s5).toNat)
      case atStart => exact ⟨0, R0, false, rfl, rfl, by omega, PS0, hI⟩
      case round =>
        obtain ⟨k, R, ag, rfl, rfl, hk, hP, hI⟩ := hrel
        clear PS0
        have q0 := hI.out.f.cell (k := 0) rfl
        have q1 := hI.out.f.cell (k := 1) rfl
        have q2 := hI.out.f.cell (k := 2) rfl
        by_cases hlt : k < n2
        · have cn := rnext_any (P := P) (A1 := A1) (n1 := n1) (c1 := c1) (c2 := c2) (k : Int) wr (hide (hC.out.below hI.out.b)) hok.out
          rw [sucZ_nat] at cn
          have hXS := hide (fun (j : Nat) (h : j ∈ suc l k) => suc_lt hok.out h)
          have hX2 := hide (suc_len l k)
          obtain ⟨xs, hxs⟩ : ∃ xs, suc l k = xs := ⟨_, rfl⟩
          rw [hxs] at cn hXS hX2
          have HXS := hide hxs
          have HSB := hide hI.out.b.size
          have hk0 : (0 : Int) ≤ (k : Int) := by omega
          have hkn : (k : Int) < (n2 : Int) := by omega
          clear hxs
          go_wp2_with fail
          refine cn.mono ?_
          rintro e w5 ⟨A5, c5, rfl, ho5, hb5⟩
          have I5 := hide (hI.out.call hb5)
          have N5 := hide (show w5.ownsRow w.heap.size 3 1 (.slice A5 xs.length c5) xs.length (cellsI (toI xs)) by rw [toI_len] at ho5; exact own_lower ho5 HSB.out)
          rw [toI_len]
          clear hb5 ho5 cn q0 q1 q2 hI HSB
          go_wp2_with fail
          go_loopw [4, 7] (fun s4 s7 wr => ∃ (i : Nat) (R : List Bool) (ag : Bool), s4 = .bool ag ∧ s7 = .int .i64 (i : Int) ∧ i ≤ xs.length ∧ Hid (Pas (suc l) n2 R0 R ag k i) ∧ Hid (RrI w P A1 n1 c1 A2 n2 c2 R wr) ∧
            Hid (wr.ownsRow w.heap.size 3 1 (.slice A5 xs.length c5) xs.length (cellsI (toI xs)))) (fun _ s7 _ => xs.length - (intOf s7).toNat)
          case atStart => exact ⟨0, R, ag, rfl, rfl, by omega, hP, I5, N5⟩
          case round =>
            obtain ⟨i, R, ag, rfl, rfl, hix, hP, hI, hN⟩ := hrel
            clear I5 N5
            have hx2 : xs.length ≤ 2 := hX2.out
            have hkR : k < R.length := by rw [hP.out.fp.len]; exact hlt
            by_cases hil : i < xs.length
            · obtain ⟨g5, c5', he5, -, -, -, -⟩ := own_block hN.out (by omega)
              injection he5 with he5 _ he5c
              subst he5 he5c
              have hjx := List.getElem?_eq_getElem hil
              have hjm := List.getElem_mem hil
              have x0 : wr.cell? ⟨g5, i, none⟩ = some (.int .i64 ((xs[i] : Nat) : Int)) := by
                rw [hN.out.cellAt i (by omega), cellsI, List.getElem?_map, toI_get, hjx]; rfl
              have hjn := hXS.out xs[i] hjm
              have HJ := hide (show (suc l k)[i]? = some xs[i] by rw [HXS.out]; exact hjx)
              generalize xs[i] = j at x0 hjn HJ
              have hj2 : j < R.length := by rw [hP.out.fp.len, ← HL.out]; exact hjn
              have hi0 : (0 : Int) ≤ (i : Int) := by omega
              have hin : (i : Int) < (xs.length : Int) := by omega
              have hjj0 : (0 : Int) ≤ (j : Int) := by omega
              have hjjn : (j : Int) < (n2 : Int) := by have := HL.out; omega
              clear hjx hjm hjn
              rcases bool_get hkR with hrk | hrk
              · have y0 := hI.out.g.cell (bcells_at hrk)
                rcases bool_get hj2 with hr | hr
                · have z0 := hI.out.g.cell (bcells_at hr)
                  have P2 := hide (show Pas (suc l) n2 R0 R ag k (i + 1) from ⟨hP.out.fp, fun e => (hP.out.sh e).old HJ.out hr, hP.out.le, hP.out.lt⟩)
                  clear hr hrk
                  go_wp2_with fail
                  go_roundw
                  case rel => exact ⟨i + 1, R, ag, rfl, by go_num, by omega, P2, hI, hN⟩
                  case measure => simp [intOf]; omega
                · have z0 := hI.out.g.cell (bcells_at hr)
                  have z1 := hI.out.g.free j
                  have hcs := count_set hr
                  have P2 := hide (show Pas (suc l) n2 R0 (R.set j true) true k (i + 1) from ⟨hP.out.fp.new hrk HJ.out hr, (fun e => by cases e), by have := hP.out.le; omega, fun _ => by have := hP.out.le; omega⟩)
                  have I6 := hide (hI.out.set j)
                  have N6 := hide (hN.out.kept (fgrown_set wr (w.heap.size + 1) j (.bool true)) (fown_apart hN.out hI.out.g fbt_ne))
                  clear hr hrk
                  go_wp2_with fail
                  go_roundw
                  case rel => exact ⟨i + 1, R.set j true, true, rfl, by go_num, by omega, P2, I6, N6⟩
                  case measure => simp [intOf]; omega
              · have y0 := hI.out.g.cell (bcells_at hrk)
                have P2 := hide (show Pas (suc l) n2 R0 R ag (k + 1) 0 from ⟨hP.out.fp, fun e => (hP.out.sh e).skip hrk, hP.out.le, hP.out.lt⟩)
                clear hrk
                go_wp2_with fail
                go_roundw
                case rel =>
                  first
                    | exact ⟨k + 1, R, ag, rfl, by go_num, by omega, P2, hI⟩
                    | (cases ag <;> first | exact ⟨k + 1, R, .inl ⟨rfl, by go_num, by omega, P2, hI⟩⟩ | exact ⟨k + 1, R, .inr ⟨rfl, by go_num, by omega, P2, hI⟩⟩)
                case measure => simp [intOf]; omega
            · obtain rfl : i = xs.length := by omega
              have P2 := hide (show Pas (suc l) n2 R0 R ag (k + 1) 0 from ⟨hP.out.fp, (fun e => by have h := hP.out.sh e; rw [← HXS.out] at h; exact h.full), hP.out.le, hP.out.lt⟩)
              go_wp2_with fail
              go_roundw
              case rel =>
                first
                  | exact ⟨k + 1, R, ag, rfl, by go_num, by omega, P2, hI⟩
                  | (cases ag <;> first | exact ⟨k + 1, R, .inl ⟨rfl, by go_num, by omega, P2, hI⟩⟩ | exact ⟨k + 1, R, .inr ⟨rfl, by go_num, by omega, P2, hI⟩⟩)
              case measure => simp [intOf]; omega
        · obtain rfl : k = n2 := by omega
          have HF2 := hide hP.out.fp
          have HS2 := hide hP.out.sh
          have hlt2 := hP.out.lt
          clear hP
          go_wp2_with fail
          go_roundg (gk - 1)
          case rel => exact ⟨R, ag, rfl, HF2, HS2, hI, fun e => by have := hlt2 e; omega⟩
          case measure => omega
end
end Go.Proofs.Ytipjeihfhnilcab
end

section
/-
  FlowReached's law, walked: it returns true. Conditions: those of the types.
-/
namespace Go.Proofs.Ytipjeihfhnilcab
open Go.RowKit

set_option maxRecDepth 100000 in
set_option maxHeartbeats 2000000 in
theorem reachlaw_walk (A0 : Option Addr) (n0 c0 : Nat) (zs : List Int) (w : World)
    (hA : Hid (A0 = none → c0 = 0)) (hn : Hid (zs.length = n0)) (hnc : n0 ≤ c0) (hm : n0 ≤ 9223372036854775807) (hs : Hid (Sees w w.heap.size A0 (cellsU8 zs))) (hz : Hid (∀ z ∈ zs, 0 ≤ z ∧ z ≤ 255)) :
    Calls Try.prog 3 #[.slice A0 n0 c0] w fun e w' => e = .returned (.bool true) ∧ Below w.heap.size w w' := by
  go_enter Try.func3, Try.ntmps3
  go_wp2_with fail
  refine (awake13_any w).mono ?_
  rintro e w1 ⟨rfl, hb1⟩
  have HB1 := hide hb1
  have HS1 := hide ((hs.out.below hb1).more hb1.size)
  clear hb1
  go_wp2_with fail
  refine (function13_any A0 n0 c0 zs w1 hA hn hnc hm HS1 hz).mono ?_
  rintro e w2 ⟨P, A1, n1, c1, A2, n2, c2, l, gk, rfl, hC, hok, hn2, hb2⟩
  obtain ⟨W, hW⟩ : ∃ V, w2.alloc (.cells #[.int .i64 P, .slice A1 n1 c1, .slice A2 n2 c2] 27) = V := ⟨_, rfl⟩
  have HW := hide hW
  have hb3 : Below w2.heap.size w2 W := by rw [← hW]; exact below1 _ _
  obtain ⟨B, hB⟩ : ∃ B, w2.heap.size = B := ⟨_, rfl⟩
  have HBB := hide hB
  have RB := hide (show Row W B 27 [.int .i64 P, .slice A1 n1 c1, .slice A2 n2 c2] by rw [← hW, ← hB]; exact Row.new w2 _ _)
  have HC := hide (hC.below hb3)
  have HBW := hide (HB1.out.trans ((hb2.trans (hb3.mono hb2.size)).mono HB1.out.size))
  have RA := hide (fun (V : World) (hb : Below W.heap.size W V) => reached_any (P := P) (A1 := A1) (n1 := n1) (c1 := c1) (c2 := c2) V (hide (HC.out.below hb)) (hide hok) hn2)
  have RBB := hide (fun (V : World) (hb : Below W.heap.size W V) => rreached_any (P := P) (A1 := A1) (n1 := n1) (c1 := c1) (c2 := c2) V (hide (HC.out.below hb)) (hide hok) hn2)
  have hn3 := hC.few
  clear hC hok hb2 hb3 hW hB HS1 HB1
  go_upto_region 4 with (fail)
  rw [HW.out, HBB.out]
  clear HW HBB
  have q0 := fun (w' : World) (hb : Below W.heap.size W w') => (RB.out.call hb).cell (k := 0) rfl
  have q1 := fun (w' : World) (hb : Below W.heap.size W w') => (RB.out.call hb).cell (k := 1) rfl
  have q2 := fun (w' : World) (hb : Below W.heap.size W w') => (RB.out.call hb).cell (k := 2) rfl
  go_region_held3 (fun w' => Below W.heap.size W w') (first | exact bb | exact below_draws (Below.refl _ _) 1 | exact below_draws bb _)
    (first
      | (go_at_call 8; with_reducible refine Calls.mono (RA.out _ (by first | exact bb | exact bb.drew | exact (Below.refl _ _).drew)) ?_; intro e w5 h5; unfold RchPost BoolsPost at h5; obtain ⟨Ra, hRa, Ga, rfl, hGa, -, hb5⟩ := h5; have HRa := hide hRa; have HGa := hide hGa; have bb := below_call (show Below W.heap.size W _ from by first | exact bb | exact bb.drew | exact (Below.refl _ _).drew) hb5; clear hRa hGa)
      | (go_at_call 9; with_reducible refine Calls.mono (RBB.out _ bb) ?_; intro e w6 h6; unfold RchPost BoolsPost at h6; obtain ⟨Rb, hRb, Gb, rfl, hGb, -, hb6⟩ := h6; have HRb := hide hRb; have HGb := hide hGb; have HGa := hide (HGa.out.call hb6); have bb := below_call bb hb6; clear hRb hGb))
  all_goals
    have hRR := HRa.out.one HRb.out
    subst hRR
    have HF := hide (HBW.out.trans (bb.mono HBW.out.size))
    have hl := HRa.out.len
    rw [hl]
    have HLN := hide hl
    clear bb q0 q1 q2 RA RBB hl HRb
    go_wp2_with fail
    go_loopw [7] (fun s wr => ∃ i : Nat, i ≤ n2 ∧ s = .int .i64 (i : Int) ∧ ∃ q, wr = w6.drewN q) (fun s _ => n2 - (intOf s).toNat)
    case atStart => exact ⟨0, by omega, rfl, 0, rfl⟩
    case round =>
      obtain ⟨i, hi, rfl, q, rfl⟩ := hrel
      by_cases hlt : i < n2
      · obtain ⟨b, hx⟩ : ∃ b, Ra[i]? = some b := ⟨_, List.getElem?_eq_getElem (show i < Ra.length by have := HLN.out; omega)⟩
        have x0 := HGa.out.cell (bcells_at hx)
        have x1 := HGb.out.cell (bcells_at hx)
        have hi0 : (0 : Int) ≤ (i : Int) := by omega
        have hin : (i : Int) < (n2 : Int) := by omega
        clear hx
        go_wp2_with fail
        go_quiet (fail)
        go_wp2_with fail
        go_roundw
        case rel => exact ⟨i + 1, by omega, by go_num, _, rfl⟩
        case measure => simp [intOf]; omega
      · obtain rfl : i = n2 := by omega
        go_wp2_with fail
        go_ret
        exact ⟨rfl, below_draws HF.out q⟩
end Go.Proofs.Ytipjeihfhnilcab
end

section
/-
  FlowReached: for every input the law returns true, and each argument reads behind the call as it did before. No condition: every input that the row speaks of.
-/
namespace Go.Proofs.Ytipjeihfhnilcab
open Go.ChangeShapes Go.WideShapes Go.ChangeAt Go.RowKit

namespace rowFlowReached
theorem own_knob : ownKnob Try.prog.godebug = none := by kernel_rfl
theorem laid_out : laidOutB Try.prog = true := by kernel_rfl
theorem cells_u8 : Try.prog.cellsOf 5 = 1 := by kernel_rfl
set_option maxRecDepth 100000 in
theorem contract (H : Type) (enc : TypeId × Value → H) (W : World) (base : Nat) (args : Array Value) (ds gs : List (DataW H)) (before : List MemPlace)
    (hval : ∀ (j : Nat) t v, Try.f3.params[j]? = some t → args[j]? = some v → Value.okWide Try.prog W .any base t v)
    (hW : DataW.Whole enc Try.prog Try.f3.params.toList Rows.flowReachedSpec.vars false W args.toList ds gs before) :
    Calls Try.prog 3 args W fun e W' => ∃ v, e = .returned v ∧ Rows.flowReachedSpec.post enc Try.prog Try.f3 false true false false W args v W' := by
  have hW' := hW
  obtain ⟨p, q, hA, hV, rfl, hfz, hnd⟩ := hW
  have hA : DataW.TrodAll enc Try.prog W 0 (fun _ => true) true Try.f3.params.toList args.toList ds p := hA
  rw [Try.params3] at hA hval
  obtain ⟨v0, vs0, d0, ds0, p0, q0, hargs, rfl, rfl, h0, r0⟩ := trodAll_cons hA
  obtain ⟨rfl, rfl, rfl⟩ := trodAll_nil r0
  obtain rfl : args = #[v0] := by cases args; simp_all
  obtain ⟨A0, n0, c0, zs0, rfl, hA0, hn0, hm0, hs0, hz0, hc0⟩ := open_u8s Try.underlying22 Try.underlying5 cells_u8 (hval 0 22 v0 rfl rfl) h0
  refine (reachlaw_walk A0 n0 c0 zs0 W (hide hA0) (hide hn0) hc0 hm0 (hide hs0) (hide hz0)).mono fun e W' ⟨he, hB⟩ => ⟨_, he, ?_⟩
  exact law_post laid_out (by decide +kernel) rfl rfl Try.underlying4 rfl hW' hB

set_option maxRecDepth 100000 in
theorem lifted (os : Os) (started : os.Started) (H : Type) (enc : TypeId × Value → H) :
    ReturnsInHanded {} Try.checked os 3 .any (Rows.flowReachedSpec.pre6 enc Try.prog Try.f3 Rows.flowReachedRow.domain false) (Rows.flowReachedSpec.post enc Try.prog Try.f3 false true false false) := by
  refine returnsInHanded_of_change (C := Try.checked) own_knob started (by kernel_rfl) Try.func3
    (ChangeSpec.witness6 (enc := enc) (C := Try.checked) false ⟨#[], #[.slice none 0 0], []⟩ 8 (by kernel_rfl) (by kernel_rfl) (by kernel_rfl) (by kernel_rfl)) ?_
  intro W base args ds gs before hval hW _ _
  exact contract H enc W base args ds gs before hval hW

theorem proved : Rows.FlowReachedSaid :=
  OpenClaim.holds_of_wide 3 Try.f3 rfl rfl rfl rfl rfl rfl rfl ⟨rfl, rfl, rfl, rfl, rfl⟩ rfl rfl rfl rfl rfl (by kernel_rfl) Try.func3 (by kernel_rfl)
    (of_decide_eq_true (by kernel_rfl)) (by unfold Func.isWrapper; first | (rw [if_pos (by decide +kernel)]; kernel_rfl) | (rw [if_neg (by decide +kernel)]; exact ⟨rfl, rfl⟩))
    (fun os started H enc _ => lifted os started H enc)
end rowFlowReached
end Go.Proofs.Ytipjeihfhnilcab
end
