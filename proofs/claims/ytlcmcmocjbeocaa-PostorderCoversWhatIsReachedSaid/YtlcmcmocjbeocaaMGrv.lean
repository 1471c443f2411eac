import Derived.Test.YtlcmcmocjbeocaaMGdep
import Derived.Test.YtlcmcmocjbeocaaMFrn
import Derived.Deep.LoopGhost
set_option linter.unusedVariables false
set_option linter.unusedSimpArgs false
section
/-
  The contract of the reference's search.visit (chapter 14), which calls itself. Conditions: those of the types; the function is right.
-/
namespace Go.Proofs.Ytlcmcmocjbeocaa
open Go.RowKit

/-- What the reference's search keeps in memory. -/
structure RvI (w : World) (P : Int) (A1 : Option Addr) (n1 c1 : Nat) (A2 : Option Addr) (n2 c2 : Nat) (gs gR : Nat) (R : List Bool) (L : List Nat) (u : Value) (wr : World) : Prop where
  s : Row wr gs 54 [.int .i64 P, .slice A1 n1 c1, .slice A2 n2 c2, .slice (some ⟨gR, 0, none⟩) n2 n2, u]
  vr : Row wr gR 4 (bcells R)
  gsb : w.heap.size ≤ gs
  gRb : w.heap.size ≤ gR
  rl : R.length = n2
  left : wr.ownsRow w.heap.size 3 1 u L.length (cellsI (toI L))
  b : Below w.heap.size w wr
/-- Rows of ints outside of u's stay, and u's row does not come to lie in one of them. -/
def KpV (w w2 : World) (u u2 : Value) : Prop := ∀ (b : Nat) (cs : List Value), Row w b 3 cs → u.ownBlock ≠ some b → Row w2 b 3 cs ∧ u2.ownBlock ≠ some b
theorem KpV.refl (w : World) (u : Value) : KpV w w u u := fun _ _ h1 h2 => ⟨h1, h2⟩
theorem KpV.trans {w w2 w3 : World} {u u2 u3 : Value} (h : KpV w w2 u u2) (h' : KpV w2 w3 u2 u3) : KpV w w3 u u3 := fun b cs h1 h2 => h' b cs (h b cs h1 h2).1 (h b cs h1 h2).2
section
variable {w wr w2 : World} {P : Int} {A1 : Option Addr} {n1 c1 : Nat} {A2 : Option Addr} {n2 c2 : Nat} {gs gR : Nat} {R : List Bool} {u u2 : Value} {L : List Nat} {l : List Ins} {k : Nat}
theorem RvI.call (h : RvI w P A1 n1 c1 A2 n2 c2 gs gR R L u wr) (hb : Below wr.heap.size wr w2) : RvI w P A1 n1 c1 A2 n2 c2 gs gR R L u w2 ∧ KpV wr w2 u u :=
  ⟨⟨h.s.call hb, h.vr.call hb, h.gsb, h.gRb, h.rl, own_below h.left hb, below_call h.b hb⟩, fun _ _ h1 h2 => ⟨h1.call hb, h2⟩⟩
theorem RvI.mark (h : RvI w P A1 n1 c1 A2 n2 c2 gs gR R L u wr) (k : Nat) : RvI w P A1 n1 c1 A2 n2 c2 gs gR (R.set k true) L u (wr.setCell ⟨gR, k, none⟩ (.bool true)) ∧ KpV wr (wr.setCell ⟨gR, k, none⟩ (.bool true)) u u :=
  ⟨⟨h.s.far (p := ⟨gR, k, none⟩) (h.s.ne_ h.vr (by decide)) _, by rw [← bcells_set]; exact h.vr.set_ k (.bool true), h.gsb, h.gRb, by simpa using h.rl, h.left.kept (fgrown_set wr gR k _) (fown_apart h.left h.vr (by decide)), h.b.setCell (p := ⟨gR, k, none⟩) h.gRb _⟩,
    fun _ _ h1 h2 => ⟨h1.far (p := ⟨gR, k, none⟩) (h1.ne_ h.vr (by decide)) _, h2⟩⟩
/-- One number is left. -/
theorem RvI.leave {o : Obj} (h : RvI w P A1 n1 c1 A2 n2 c2 gs gR R L u wr) (ho : w2.ownsRow w.heap.size 3 1 u2 (L.length + 1) (cellsI (toI L) ++ [.int .i64 (k : Int)])) (hg : (wr.alloc o).grownBy w2 u.ownBlock) (hw : ∀ k, u2.ownBlock = some k → u.ownBlock = some k ∨ k = (wr.alloc o).heap.size) :
    RvI w P A1 n1 c1 A2 n2 c2 gs gR R (L ++ [k]) u2 (w2.setCell ⟨gs, 4, none⟩ u2) ∧ KpV wr (w2.setCell ⟨gs, 4, none⟩ u2) u u2 := by
  have hro := fun {g t : Nat} {cs : List Value} (hr : Row wr g t cs) (ht : t ≠ 3) => hr.append h.left ht hg
  have hs := hro h.s (by decide)
  have ho' : w2.ownsRow w.heap.size 3 1 u2 (L ++ [k]).length (cellsI (toI (L ++ [k]))) := by rw [toI_append, cellsI_append, List.length_append]; exact ho
  refine ⟨⟨hs.set_ 4 u2, (hro h.vr (by decide)).far (p := ⟨gs, 4, none⟩) ((hro h.vr (by decide)).ne_ hs (by decide)) _, h.gsb, h.gRb, h.rl, ho'.kept (fgrown_set w2 gs 4 _) (fown_apart ho' hs (by decide)), ?_⟩, fun b cs h1 h2 => ⟨?_, fun e => ?_⟩⟩
  · exact (below_append (h.b.alloc h.b.size o) (h.left.alloc o) (Nat.le_refl _) hg (Nat.le_trans h.b.size (by simp))).setCell (p := ⟨gs, 4, none⟩) h.gsb _
  · have h3 := (h1.alloc o).grown hg fun e => h2 e.symm
    exact h3.far (p := ⟨gs, 4, none⟩) (h3.ne_ hs (by decide)) _
  · rcases hw b e with q | q
    · exact h2 q
    · have := (h1.alloc o).lt; omega
/-- How visit returns. -/
def VisPost (w : World) (P : Int) (A1 : Option Addr) (n1 c1 : Nat) (A2 : Option Addr) (n2 c2 : Nat) (gs gR : Nat) (l : List Ins) (R : List Bool) (L : List Nat) (u : Value) (k : Nat) (wr : World) (e : Ending) (w' : World) : Prop :=
  e = .returned (.tuple #[]) ∧ ∃ R1 L1 u1, Vis (suc l) R L [k] R1 L1 ∧ RvI w P A1 n1 c1 A2 n2 c2 gs gR R1 L1 u1 w' ∧ KpV wr w' u u1
set_option maxRecDepth 100000 in
set_option maxHeartbeats 4000000 in
theorem rvisit_any (hC : Hid (CdAt w A2 n2 l)) (hok : Hid (FlowOk l)) (m : Nat) : ∀ (k : Nat) (R : List Bool) (L : List Nat) (u : Value) (w0 : World) (_ : Hid (RvI w P A1 n1 c1 A2 n2 c2 gs gR R L u w0)) (_ : k < n2) (_ : Hid (R[k]? = some false)) (_ : R.count false ≤ m) (_ : L.length + R.count false ≤ n2),
    Calls Try.prog 27 #[.pointer (some ⟨gs, 0, none⟩), .int .i64 (k : Int)] w0 (VisPost w P A1 n1 c1 A2 n2 c2 gs gR l R L u k w0) := by
  induction m with
  | zero =>
    intro k R L u w0 _ _ hr hm _
    have := count_set hr.out
    omega
  | succ m ih =>
    intro k R L u w0 h hk hr hm hLm
    obtain ⟨i0, hi, hz0, hz1, hz2⟩ := info_parts infoI
    have hn2 := hC.out.few
    have HL := hide hC.out.len
    have hcs := count_set hr.out
    obtain ⟨W1, hW1⟩ : ∃ W, w0.setCell ⟨gR, k, none⟩ (.bool true) = W := ⟨_, rfl⟩
    have I1 := hide (show RvI w P A1 n1 c1 A2 n2 c2 gs gR (R.set k true) L u W1 by rw [← hW1]; exact (h.out.mark k).1)
    have K1 := hide (show KpV w0 W1 u u by rw [← hW1]; exact (h.out.mark k).2)
    have HW1 := hide hW1
    have q3 := h.out.s.cell (k := 3) rfl
    have z0 := h.out.vr.cell (bcells_at hr.out)
    have z1 := h.out.vr.free k
    have hk0 : (0 : Int) ≤ (k : Int) := by omega
    have hkn : (k : Int) < (n2 : Int) := by omega
    have cn := rnext_any (P := P) (A1 := A1) (n1 := n1) (c1 := c1) (c2 := c2) (k : Int) W1 (hide (hC.out.below I1.out.b)) hok.out
    rw [sucZ_nat] at cn
    have hXS := hide (fun (j : Nat) (h : j ∈ suc l k) => suc_lt hok.out h)
    have hX2 := hide (suc_len l k)
    obtain ⟨xs, hxs⟩ : ∃ xs, suc l k = xs := ⟨_, rfl⟩
    have HXS := hide hxs
    rw [hxs] at cn hX2 hXS
    clear hW1 hxs
    go_enter Try.func27, Try.ntmps27
    go_upto_region 1 with (fail)
    rw [HW1.out]
    clear q3 z0 z1 HW1 h
    have q0 := I1.out.s.cell (k := 0) rfl
    have q1 := I1.out.s.cell (k := 1) rfl
    have q2 := I1.out.s.cell (k := 2) rfl
    go_wp2_with fail
    refine cn.mono ?_
    rintro e w5 ⟨A5, c5, rfl, ho5, hb5⟩
    have I5 := hide (I1.out.call hb5).1
    have K5 := hide (K1.out.trans (I1.out.call hb5).2)
    rw [toI_len] at ho5 ⊢
    have RS := hide (RsAt.own (u := u) ho5 (fun b hb => (I1.out.left.lt b hb).2))
    clear ho5 hb5 cn q0 q1 q2 I1 K1
    go_wp2_with fail
    go_loopw [5] (fun s5 wq => ∃ (i : Nat) (R' : List Bool) (L' : List Nat) (u' : Value), s5 = .int .i64 (i : Int) ∧ i ≤ xs.length ∧ Hid (Vis (suc l) (R.set k true) L (xs.take i) R' L') ∧ Hid (RvI w P A1 n1 c1 A2 n2 c2 gs gR R' L' u' wq) ∧ Hid (KpV w0 wq u u') ∧ Hid (RsAt wq u' (.slice A5 xs.length c5) xs)) (fun s5 _ => xs.length - (intOf s5).toNat)
    case atStart => exact ⟨0, _, L, u, rfl, by omega, hide .nil, I5, K5, RS⟩
    case round =>
      obtain ⟨i, R', L', u', rfl, hix, hV, hI, hK, hRS⟩ := hrel
      clear I5 RS
      have hx2 : xs.length ≤ 2 := hX2.out
      have hcn := hV.out.cnt
      by_cases hlt : i < xs.length
      · obtain ⟨A, c, he, -, -, hb⟩ := hRS.out
        obtain ⟨b, off, cs, hA, hrow, hxx, -⟩ := hb (by omega)
        injection he with he _ hec
        subst he hA hec
        have hjx := List.getElem?_eq_getElem hlt
        have hjm := List.getElem_mem hlt
        have x0 := hrow.cell (hxx i _ hjx)
        have hjn := hXS.out xs[i] hjm
        have HT := hide (show xs.take (i + 1) = xs.take i ++ [xs[i]] by rw [List.take_add_one, hjx]; rfl)
        generalize xs[i] = j at x0 hjn HT
        have hjl : j < R'.length := by have h1 := hI.out.rl; have h2 := HL.out; omega
        have hi0 : (0 : Int) ≤ (i : Int) := by omega
        have hin : (i : Int) < (xs.length : Int) := by omega
        have hj0 : (0 : Int) ≤ (j : Int) := by omega
        have hjz : (j : Int) < (n2 : Int) := by have h2 := HL.out; omega
        have s3 := hI.out.s.cell (k := 3) rfl
        rcases bool_get hjl with hr' | hr'
        · have z0 := hI.out.vr.cell (bcells_at hr')
          have HV2 := hide (show Vis (suc l) (R.set k true) L (xs.take (i + 1)) R' L' by rw [HT.out]; exact hV.out.append (.one_old hr'))
          have I2 := hide (hI.out.call (below_draws (Below.refl _ _) 1)).1
          have K2 := hide (hK.out.trans (hI.out.call (below_draws (Below.refl _ _) 1)).2)
          have RS2 := hide (hRS.out.keep (hI.out.call (below_draws (Below.refl _ _) 1)).2)
          clear hr' hjx hjm hrow hxx hcn hb
          go_upto_region 5 with (fail)
          go_region
          go_wp2_with fail
          go_roundw
          case rel => exact ⟨i + 1, R', L', u', by go_num, by omega, HV2, I2, K2, RS2⟩
          case measure => simp [intOf]; omega
        · have z0 := hI.out.vr.cell (bcells_at hr')
          obtain ⟨W2, hW2⟩ : ∃ W, wr.drew = W := ⟨_, rfl⟩
          have B2 := hide (show Below wr.heap.size wr W2 by rw [← hW2]; exact (Below.refl _ _).drew)
          have I2 := hide (hI.out.call B2.out).1
          have K2 := hide (hK.out.trans (hI.out.call B2.out).2)
          have RS2 := hide (hRS.out.keep (hI.out.call B2.out).2)
          have y0 : W2.cell? ⟨b, off + i, none⟩ = some (.int .i64 (j : Int)) := keep_cellB B2.out x0
          have HW2 := hide hW2
          have hc2 : R'.count false ≤ m := by have h1 := hcn.2.2.1; omega
          have hc3 : L'.length + R'.count false ≤ n2 := by have h1 := hcn.2.1; omega
          have HRF := hide hr'
          have cv := ih j R' L' u' W2 I2 (by omega) HRF hc2 hc3
          clear hr' hjx hjm hrow hxx hcn hb hW2 B2
          go_upto_region 5 with (fail)
          go_region
          rw [HW2.out]
          clear HW2 z0 x0 s3 hI hK hRS
          go_wp2_with fail
          refine cv.mono ?_
          rintro e w9 ⟨rfl, R9, L9, u9, hV9, hI9, hK9⟩
          have HV2 := hide (show Vis (suc l) (R.set k true) L (xs.take (i + 1)) R9 L9 by rw [HT.out]; exact hV.out.append hV9)
          have I9 := hide hI9
          have K9 := hide (K2.out.trans hK9)
          have RS9 := hide (RS2.out.keep hK9)
          clear hV9 hI9 hK9 cv I2 K2 RS2 hV y0
          go_wp2_with fail
          go_roundw
          case rel => exact ⟨i + 1, R9, L9, u9, by go_num, by omega, HV2, I9, K9, RS9⟩
          case measure => simp [intOf]; omega
      · obtain rfl : i = xs.length := by omega
        have HV2 := hide (show Vis (suc l) (R.set k true) L (suc l k) R' L' by rw [HXS.out]; have h := hV.out; rw [List.take_length] at h; exact h)
        have HS7 := hide hI.out.b.size
        have hLl : L'.length ≤ n2 := by have h1 := hcn.2.1; omega
        have s4 := hI.out.s.cell (k := 4) rfl
        clear hRS hV hcn
        go_upto_region 8 with (at_builtin; refine wpList_append_where rfl (.tmp 44) (.tmp 46) 30 rfl w.heap.size 3 i0 (.int .i64 0) 1 8 Try.underlying30 hi hz0 hz1 hz2 rfl (by decide) _ L'.length (cellsI (toI L')) rfl (hI.out.left.alloc _) ⟨wr.heap.size, 0, none⟩ 1 1 [.int .i64 (k : Int)] rfl rfl (one_new _ _ _) (one_cell _) (by unfold maxLen; omega) (by omega) (Nat.le_trans HS7.out (by simp)) ?_)
        intro v8 w8 ho8 hg8 hw8
        obtain ⟨A8, c8, rfl, -, -⟩ := own_form ho8
        have hs8 := hI.out.s.append hI.out.left (by decide) hg8
        have s48 := hs8.cell (k := 4) rfl
        have f48 := hs8.free 4
        have LV := hI.out.leave ho8 hg8 (fun k hk => by simpa using hw8 k hk)
        have FIN := hide (show VisPost w P A1 n1 c1 A2 n2 c2 gs gR l R L u k w0 (.returned (.tuple #[])) (w8.setCell ⟨gs, 4, none⟩ (.slice A8 (L'.length + 1) c8)) from ⟨rfl, R', L' ++ [k], _, .one_new hr.out HV2.out, LV.1, hK.out.trans LV.2⟩)
        clear ho8 hg8 hw8 hs8 LV hI hK s4
        go_wp2_with fail
        go_end0
        exact FIN.out
end
end Go.Proofs.Ytlcmcmocjbeocaa
end
