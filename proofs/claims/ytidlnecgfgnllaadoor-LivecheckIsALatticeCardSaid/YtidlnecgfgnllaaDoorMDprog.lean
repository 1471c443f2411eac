import Derived.Test.YtidlnecgfgnllaaDoorMDfn
import Derived.Test.YtidlnecgfgnllaaDoorMPmath
import Derived.Test.YtidlnecgfgnllaaDoorMOwr
import Derived.Test.YtidlnecgfgnllaaDoorMAliv
import Derived.Test.YtidlnecgfgnllaaDoorMDraw
import Derived.Test.YtidlnecgfgnllaaDoorMFgr
import Derived.Deep.RegionLaw
set_option linter.unusedVariables false
set_option linter.unusedSimpArgs false
section
/-
  The contract of spillframedraw's Program: a right program whose functions call later ones alone. Condition: the receiver is a list of choices.
-/
namespace Go.Proofs.YtidlnecgfgnllaaDoor
open Go.RowKit

/-- A drawn program. -/
structure PgGood (funcs most : Nat) (F : Pg) : Prop where
  err : pgE F = 0
  one : 1 ≤ F.length
  few : F.length ≤ funcs
  fn : ∀ (i : Nat) (f : Fn), F[i]? = some f → FnGood F.length i most f ∧ 0 ≤ f.params ∧ f.params ≤ 3
def ProgPost (funcs most g : Nat) (w : World) (e : Ending) (w' : World) : Prop :=
  ∃ (A : Option Addr) (n c : Nat) (hs : List Hd) (F : Pg), e = .returned (gv A n c) ∧ PgAt w' w.heap.size w'.heap.size A n c hs F ∧ PgGood funcs most F ∧ Codes w' g ∧ w.grownBy w' (some g)

theorem Tryd.info30' : (Tryd.prog.info? 30).map (fun i => (i.zero, i.size, i.bytes)) = some (some (.agg #[.int .i64 0, .slice none 0 0, .slice none 0 0]), 3, 56) := by kernel_rfl
/-- What the loop of parameters keeps. -/
def ParI (g funcs k : Nat) (w : World) (v : Value) (wr : World) : Prop :=
  ∃ ps : List Int, k + ps.length ≤ funcs ∧ ps[0]? = some 0 ∧ (∀ p ∈ ps, 0 ≤ p ∧ p ≤ 3) ∧ wr.ownsRow (w.heap.size + 1) 3 1 v ps.length (cellsJ ps) ∧ Row wr w.heap.size 58 [.slice none 0 0] ∧ Codes wr g ∧ w.grownBy wr (some g)
theorem ParI.add {g funcs k : Nat} {w w2 w3 : World} {v v' : Value} {ps : List Int} {p : Int} {t : TypeId} (hk : k + 1 + ps.length ≤ funcs) (h0 : ps[0]? = some 0) (hb : ∀ p ∈ ps, 0 ≤ p ∧ p ≤ 3) (hp : 0 ≤ p ∧ p ≤ 3) (hg : g < w.heap.size)
    (ho : w2.ownsRow (w.heap.size + 1) 3 1 v ps.length (cellsJ ps)) (hR : Row w2 w.heap.size 58 [.slice none 0 0]) (hC : Codes w2 g) (hG : w.grownBy w2 (some g))
    (ho3 : w3.ownsRow (w.heap.size + 1) 3 1 v' (ps.length + 1) (cellsJ ps ++ [.int .i64 p])) (hg3 : (w2.alloc (.cells #[.int .i64 p] t)).grownBy w3 v.ownBlock) : ParI g funcs k w v' w3 := by
  refine ⟨ps ++ [p], by simp; omega, ?_, (fun q hq => ?_), by rw [cellsJ_append]; simpa [cellsJ] using ho3, (hR.alloc _).grown hg3 (own_far_block ho (by omega)), (hC.alloc _).kept hg3 (fun j hj => ?_), (hG.trans (World.grownBy_alloc _ _ _)).andThen hg3 (fun j hj => .inl ?_)⟩
  · have hl : 0 < ps.length := by
      rcases Nat.lt_or_ge 0 ps.length with h | h
      · exact h
      · rw [List.getElem?_eq_none h] at h0; cases h0
    rw [List.getElem?_append_left hl]; exact h0
  · rcases List.mem_append.1 hq with h | h
    · exact hb q h
    · simp at h; subst h; exact hp
  · have := (ho.lt j hj).1; omega
  · have := (ho.lt j hj).1; omega

/-- What the loop of functions keeps; lo: the heap's size behind the program's own place, which is the block in front of it. -/
def FunI (g most N lo : Nat) (ps : List Int) (Ap : Option Addr) (w : World) (i : Nat) (wr : World) : Prop :=
  ∃ (A : Option Addr) (c : Nat) (hs : List Hd) (F : Pg), PgAt wr lo wr.heap.size A i c hs F ∧ Row wr (lo - 1) 58 [.slice A i c] ∧ Row wr w.heap.size 58 [.slice none 0 0] ∧ (∀ (j : Nat) (f : Fn), F[j]? = some f → FnGood N j most f ∧ ps[j]? = some f.params) ∧
    Sees wr (lo - 1) Ap (cellsJ ps) ∧ lo ≤ wr.heap.size ∧ Codes wr g ∧ w.grownBy wr (some g)
theorem hcells_one (h : Hd) : hcells [h] = [.int .i64 h.p, .slice h.a1 h.n1 h.c1, .slice h.a2 h.n2 h.c2] := rfl
theorem head_new (w : World) (P : Int) (A1 : Option Addr) (n1 c1 : Nat) (A2 : Option Addr) (n2 c2 : Nat) (t : TypeId) : ∀ (j : Nat) (u : Value), [Value.int .i64 P, .slice A1 n1 c1, .slice A2 n2 c2][j]? = some u → (w.alloc (.cells #[.int .i64 P, .slice A1 n1 c1, .slice A2 n2 c2] t)).cell? ((⟨w.heap.size, 0, none⟩ : Addr).add j) = some u := by
  intro j u hu
  rw [WideShapes.add_plain, Nat.zero_add]
  exact (Row.new w t [.int .i64 P, .slice A1 n1 c1, .slice A2 n2 c2]).cell hu
theorem head_cells (P : Int) (A1 : Option Addr) (n1 c1 : Nat) (A2 : Option Addr) (n2 c2 : Nat) : ∀ u ∈ [Value.int .i64 P, .slice A1 n1 c1, .slice A2 n2 c2], u.oneCell' = true := hcells_oneCell [⟨P, A1, n1, c1, A2, n2, c2⟩]
/-- One function more. -/
theorem FunI.add {g most N lo i c : Nat} {ps : List Int} {Ap A : Option Addr} {w wr w1 w2 w3 : World} {hs : List Hd} {F : Pg} {v1 v2 : Value} {P : Int} {A1 : Option Addr} {n1 c1 : Nat} {A2 : Option Addr} {n2 c2 : Nat} {f : Fn} {t : TypeId}
    (hlo : w.heap.size + 1 < lo) (hg : g < w.heap.size) (hap : Far (w.heap.size + 1) Ap) (H : PgAt wr lo wr.heap.size A i c hs F) (hRP : Row wr (lo - 1) 58 [.slice A i c]) (hR : Row wr w.heap.size 58 [.slice none 0 0]) (hF : ∀ (j : Nat) (f : Fn), F[j]? = some f → FnGood N j most f ∧ ps[j]? = some f.params) (hps : Sees wr (lo - 1) Ap (cellsJ ps)) (hlr : lo ≤ wr.heap.size) (hG : w.grownBy wr (some g)) (hi : i ≤ 1000)
    (ho1 : w1.ownsRow wr.heap.size 30 3 v1 i (hcells hs)) (hg1 : wr.grownBy w1 none)
    (hh : HdAt w2 w1.heap.size w2.heap.size ⟨P, A1, n1, c1, A2, n2, c2⟩ f) (hf : FnGood N i most f) (hp : ps[i]? = some P) (hC2 : Codes w2 g) (hg2 : w1.grownBy w2 (some g))
    (ho3 : w3.ownsRow wr.heap.size 30 3 v2 (i + 1) (hcells hs ++ [.int .i64 P, .slice A1 n1 c1, .slice A2 n2 c2])) (hg3 : (w2.alloc (.cells #[.int .i64 P, .slice A1 n1 c1, .slice A2 n2 c2] t)).grownBy w3 v1.ownBlock) :
    FunI g most N lo ps Ap w (i + 1) (w3.setCell ⟨lo - 1, 0, none⟩ v2) := by
  obtain ⟨A', c', rfl, hA', hn', hfar', hsee'⟩ := own_seen ho3
  have s1 : wr.heap.size ≤ w1.heap.size := hg1.size
  have s2 : w1.heap.size ≤ w2.heap.size := hg2.size
  have s3 : w2.heap.size + 1 ≤ w3.heap.size := by have := hg3.size; simpa using this
  have hv1 : ∀ k, v1.ownBlock = some k → wr.heap.size ≤ k ∧ k < w1.heap.size := ho1.lt
  have hsz : (w3.setCell ⟨lo - 1, 0, none⟩ (.slice A' (i + 1) c')).heap.size = w3.heap.size := by simp [World.setCell]
  -- what lay in wr, but for the choices
  have k1 : ∀ p : Addr, p.block < wr.heap.size → p.block ≠ g → p.block ≠ lo - 1 → (w3.setCell ⟨lo - 1, 0, none⟩ (.slice A' (i + 1) c')).cell? p = wr.cell? p := fun p hp hpg hpl => by
    rw [World.cell?_setCell_other _ _ _ _ (fun e => by subst e; exact hpl rfl)]
    have e3 : w3.cell? p = (w2.alloc (.cells #[.int .i64 P, .slice A1 n1 c1, .slice A2 n2 c2] t)).cell? p := World.cell?_of_block (hg3.block p.block (by simp; omega) (fun e => by have := hv1 _ e.symm; omega))
    rw [e3, World.cell?_alloc_lt w2 _ p (by omega), World.cell?_of_block (hg2.block p.block (by omega) (fun e => by injection e with e; exact hpg e)), World.cell?_of_block (hg1.block p.block hp (fun e => by cases e))]
  -- what the function has left
  have k2 : ∀ p : Addr, w1.heap.size ≤ p.block → p.block < w2.heap.size → (w3.setCell ⟨lo - 1, 0, none⟩ (.slice A' (i + 1) c')).cell? p = w2.cell? p := fun p h1 h2 => by
    rw [World.cell?_setCell_other _ _ _ _ (fun e => by subst e; simp at h1; omega)]
    have e3 : w3.cell? p = (w2.alloc (.cells #[.int .i64 P, .slice A1 n1 c1, .slice A2 n2 c2] t)).cell? p := World.cell?_of_block (hg3.block p.block (by simp; omega) (fun e => by have := hv1 _ e.symm; omega))
    rw [e3, World.cell?_alloc_lt w2 _ p (by omega)]
  have hl : hs.length = i := by rw [H.hd.len, H.len]
  have r1 := (hRP.grown hg1 (fun e => by cases e)).grown hg2 (fun e => by injection e with e; omega)
  have r3 := (r1.alloc (.cells #[.int .i64 P, .slice A1 n1 c1, .slice A2 n2 c2] t)).grown hg3 (own_far_block ho1 (by omega))
  have q1 := (hR.grown hg1 (fun e => by cases e)).grown hg2 (fun e => by injection e with e; omega)
  have q3 := (q1.alloc (.cells #[.int .i64 P, .slice A1 n1 c1, .slice A2 n2 c2] t)).grown hg3 (own_far_block ho1 (by omega))
  refine ⟨A', c', hs ++ [⟨P, A1, n1, c1, A2, n2, c2⟩], F ++ [f], ⟨by simp [H.len], ⟨hA', hn', by omega⟩, hfar'.more hlr, ?_, ⟨by simp [H.hd.len], fun k h f' e1 e2 => ?_⟩⟩, r3.set_ 0 _, q3.far (p := ⟨lo - 1, 0, none⟩) (by simp; omega) _, (fun j f' e => ?_), ?_, by rw [hsz]; omega, ?_, ?_⟩
  · rw [hcells_append, hcells_one, hsz]
    exact hsee'.keepF hfar' fun p h1 _ => World.cell?_setCell_other _ _ _ _ (fun e => by subst e; simp at h1; omega)
  · rw [hsz]
    rcases Nat.lt_or_ge k i with hk | hk
    · rw [List.getElem?_append_left (by omega)] at e1
      rw [List.getElem?_append_left (by rw [H.len]; exact hk)] at e2
      exact ((H.hd.at_ k h f' e1 e2).keep fun p h1 h2 => k1 p h2 (by omega) (by omega)).more (by omega) (Nat.le_refl _)
    · rw [List.getElem?_append_right (by omega)] at e1
      rw [List.getElem?_append_right (by rw [H.len]; exact hk)] at e2
      rw [hl] at e1
      rw [H.len] at e2
      cases hz : k - i with
      | zero =>
        rw [hz] at e1 e2
        simp at e1 e2
        subst e1 e2
        exact (hh.keep fun p h1 h2 => k2 p h1 h2).more (by omega) (by omega)
      | succ j => rw [hz] at e1; simp at e1
  · rcases Nat.lt_or_ge j i with hk | hk
    · rw [List.getElem?_append_left (by rw [H.len]; exact hk)] at e
      exact hF j f' e
    · rw [List.getElem?_append_right (by rw [H.len]; exact hk), H.len] at e
      cases hz : j - i with
      | zero =>
        rw [hz] at e
        simp at e
        subst e
        obtain rfl : j = i := by omega
        exact ⟨hf, by rw [hp]; exact congrArg some hh.p⟩
      | succ j' => rw [hz] at e; simp at e
  · exact hps.keepF hap fun p h1 h2 => k1 p (by omega) (by omega) (by omega)
  · have hC3 := (hC2.alloc (.cells #[.int .i64 P, .slice A1 n1 c1, .slice A2 n2 c2] t)).kept hg3 (fun k hk => by have := hv1 k hk; omega)
    exact hC3.kept (grown_cell w3 (lo - 1) 0 _) (fun k hk => by injection hk with hk; omega)
  · have hG3 : w.grownBy w3 (some g) := (((hG.andThen hg1 (fun j hj => by cases hj)).trans hg2).trans (World.grownBy_alloc _ _ _)).andThen hg3 (fun j hj => .inl (by have := hv1 j hj; have := hG.size; omega))
    exact hG3.andThen (grown_cell w3 (lo - 1) 0 _) (fun k hk => .inl (by injection hk with hk; omega))

set_option maxRecDepth 100000 in
set_option maxHeartbeats 8000000 in
theorem prog_any (g funcs most : Nat) (w : World) (h : Hid (Codes w g)) (hf1 : 1 ≤ funcs) (hf2 : funcs ≤ 80) (hm : most ≤ 100) :
    Calls Tryd.prog 24 #[.pointer (some ⟨g, 0, none⟩), .int .i64 (funcs : Int), .int .i64 (most : Int)] w (ProgPost funcs most g w) := by
  obtain ⟨i0, hi, hz0, hz1, hz2⟩ := info_parts Tryd.info3
  obtain ⟨j0, ji, jz0, jz1, jz2⟩ := info_parts Tryd.info30'
  have c := next_any g
  have hgl := h.out.lt
  obtain ⟨W, hW⟩ : ∃ W, (w.alloc (.cells #[.slice none 0 0] 58)).alloc (.cells #[.int .i64 0] 3) = W := ⟨_, rfl⟩
  have HW := hide hW
  have hP0 : Hid (ParI g funcs 0 w (.slice (some ⟨w.heap.size + 1, 0, none⟩) 1 1) W) := by
    refine hide ⟨[0], by simp; omega, rfl, (fun p hp => by simp at hp; subst hp; omega), ?_, ?_, ?_, ?_⟩
    · rw [← hW]
      exact ⟨rfl, .inr ⟨w.heap.size + 1, 1, #[.int .i64 0], rfl, Nat.le_refl _, heap_at _ _ (by simp), Nat.le_refl _, by unfold maxLen; omega, rfl, rfl⟩⟩
    · rw [← hW]; exact (Row.new w _ _).alloc _
    · rw [← hW]; exact (h.out.alloc _).alloc _
    · rw [← hW]; exact (World.grownBy_alloc _ _ _).trans (World.grownBy_alloc _ _ _)
  clear hW
  have hfz : (1 : Int) ≤ (funcs : Int) := by omega
  go_enter Tryd.func24, Tryd.ntmps24
  go_wp2_with fail
  rw [HW.out]
  clear HW
  obtain ⟨_, _, _, _, _, _, hC0, hG0⟩ := hP0.out
  have HC0 := hide hC0
  clear hC0 hG0
  refine (c (funcs : Int) _ HC0 hfz (by omega)).mono ?_
  rintro e w1 ⟨v, rfl, v0, v1, hC1, hG1, hzz1⟩
  obtain ⟨m, rfl⟩ := Int.eq_ofNat_of_zero_le v0
  have HP1 : Hid (ParI g funcs m w (.slice (some ⟨w.heap.size + 1, 0, none⟩) 1 1) w1) := by
    obtain ⟨ps, h1, h2, h3, h4, h5, h6, h7⟩ := hP0.out
    have hl : ps.length = 1 := by
      obtain ⟨A, c', he, _⟩ := own_form h4
      injection he with _ e2 _
      exact e2.symm
    exact hide ⟨ps, by omega, h2, h3, own_stay h4 (by omega) hG1, h5.grown hG1 (fun e => by injection e with e; omega), hC1, h7.trans hG1⟩
  clear hC1 hG1 hzz1 hP0 HC0
  go_wp2_with fail
  go_loopw [7, 8] (fun pv kv wr => ∃ k : Nat, kv = .int .i64 (k : Int) ∧ Hid (ParI g funcs k w pv wr)) (fun _ kv _ => (intOf kv).toNat)
  case atStart => exact ⟨m, rfl, HP1⟩
  case round =>
    obtain ⟨k, rfl, hP⟩ := hrel
    obtain ⟨ps, h1, h2, h3, h4, h5, h6, h7⟩ := hP.out
    have HPS0 := hide h2
    have HPB := hide h3
    have HO := hide h4
    have HR := hide h5
    have HC := hide h6
    have HG := hide h7
    clear h2 h3 h4 h5 h6 h7 hP
    by_cases hlt : 0 < k
    · obtain ⟨k, rfl⟩ : ∃ j, k = j + 1 := ⟨k - 1, by omega⟩
      have hlz : (0 : Int) < ((k + 1 : Nat) : Int) := by omega
      go_wp2_with fail
      refine (c 4 _ HC (by omega) (by omega)).mono ?_
      rintro e w2 ⟨p, rfl, p0, p1, hC2, hG2, hzz2⟩
      have HC2 := hide hC2
      have HG2 := hide (HG.out.trans hG2)
      have HO2 := hide (own_stay HO.out (by omega) hG2)
      have HR2 := hide (HR.out.grown hG2 (fun e => by injection e with e; omega))
      clear hC2 hG2 hzz2
      go_wp2_with (at_builtin; refine wpList_append_own _ rfl (.tmp 20) (.tmp 23) 42 rfl (w.heap.size + 1) 3 i0 (.int .i64 0) 1 8 Tryd.underlying42 hi hz0 hz1 hz2 rfl (by decide) _ ps.length (cellsJ ps) rfl (HO2.out.alloc _) ⟨_, 0, none⟩ 1 1 [.int .i64 p] rfl rfl (one_new _ _ _) (fun u hu => by simp at hu; subst hu; rfl) (by unfold maxLen; omega) (by omega) (by simp; have := HR2.out.lt; omega) ?_)
      intro v' w3 ho3 hg3 _
      have HN := hide (ParI.add (p := p) (by omega : k + 1 + ps.length ≤ funcs) HPS0.out HPB.out (by omega) hgl HO2.out HR2.out HC2.out HG2.out ho3 hg3)
      clear ho3 hg3
      go_wp2_with fail
      go_roundw
      case rel => exact ⟨k, by go_num, HN⟩
      case measure => simp [intOf]
    · obtain rfl : k = 0 := by omega
      rw [show ((0 : Nat) : Int) = 0 from rfl]
      obtain ⟨Ap, cp, rfl, hAp, hnp, hfp, hsp⟩ := own_seen HO.out
      have hps1 : 1 ≤ ps.length := by
        rcases Nat.lt_or_ge 0 ps.length with h | h
        · exact h
        · have := HPS0.out; rw [List.getElem?_eq_none h] at this; cases this
      obtain ⟨wb, hwb⟩ : ∃ wb, wr.alloc (.cells #[.slice none 0 0] 58) = wb := ⟨_, rfl⟩
      have HWB := hide hwb
      have hsb : wr.heap.size + 1 = wb.heap.size := by rw [← hwb]; simp
      have HI : Hid (FunI g most ps.length wb.heap.size ps Ap w 0 wb) := by
        refine hide ⟨none, 0, [], [], ⟨rfl, ⟨fun _ => rfl, Nat.le_refl _, by omega⟩, Far.none _, Sees.nil_ _ _ _, ⟨rfl, fun k h f e => by simp at e⟩⟩, ?_, ?_, (fun j f e => by simp at e), ?_, Nat.le_refl _, ?_, ?_⟩
        · rw [← hsb, Nat.add_sub_cancel, ← hwb]; exact Row.new wr _ _
        · rw [← hwb]; exact HR.out.alloc _
        · rw [← hsb, Nat.add_sub_cancel, ← hwb]; exact hsp.alloc (Nat.le_refl _) _
        · rw [← hwb]; exact HC.out.alloc _
        · rw [← hwb]; exact HG.out.trans (World.grownBy_alloc _ _ _)
      have hlo : w.heap.size + 1 < wb.heap.size := by have := HR.out.lt; omega
      have HFP := hide hfp
      have hwrl : wr.heap.size = wb.heap.size - 1 := by omega
      have HWL := hide hwrl
      have hgb : g < wb.heap.size := by omega
      clear hwb hsb hAp hnp hfp hsp HO HR HC HG hwrl
      go_wp2_with fail
      rw [HWB.out, HWL.out]
      clear HWB
      go_loopw [10, 11] (fun iv _ wr => ∃ i : Nat, i ≤ ps.length ∧ iv = .int .i64 (i : Int) ∧ Hid (FunI g most ps.length wb.heap.size ps Ap w i wr)) (fun iv _ _ => ps.length - (intOf iv).toNat)
      case atStart => exact ⟨0, by omega, rfl, HI⟩
      case round =>
        obtain ⟨i, hin, rfl, hI⟩ := hrel
        obtain ⟨A, cA, hs, F, H, hRP, hR, hF, hps, hlr, hC, hG⟩ := hI.out
        have HH := hide H
        have HRP := hide hRP
        have HRR := hide hR
        have HF := hide hF
        have HPS := hide hps
        have HC := hide hC
        have HG := hide hG
        have HL := hide hlr
        have x0 := hRP.cell (k := 0) rfl
        have hhl : Hid (hs.length = i) := hide (by rw [H.hd.len, H.len])
        clear H hRP hR hF hps hlr hC hG hI
        by_cases hlt : i < ps.length
        · have hlz : (i : Int) < (ps.length : Int) := by omega
          go_wp2_with (at_builtin; refine wpList_append_seesN rfl (.const (.slice none 0 0)) (.tmp 32) 56 rfl wr.heap.size 30 j0 (.agg #[.int .i64 0, .slice none 0 0, .slice none 0 0]) 3 56 Tryd.underlying56 ji jz0 jz1 jz2 rfl (by decide) (.slice none 0 0) 0 [] rfl (World.ownsRow_nil _ _ _ _) wr.heap.size A i cA (hcells hs) rfl (hide HH.out.cap.1) (hide (by rw [hcells_length, hhl.out])) (hide HH.out.see) (hide HH.out.cap.2.1) (hcells_oneCell _) (by unfold maxLen; omega) (by omega) (Nat.le_refl _) ?_)
          intro v1 w2 ho1 hg1
          have HO1 := hide ho1
          have HG1 := hide hg1
          have hC2 := HC.out.kept hg1 (fun k hk => by cases hk)
          have hs1 : wr.heap.size ≤ w2.heap.size := hg1.size
          have hps2 : Sees w2 (wb.heap.size - 1) Ap (cellsJ ps) := HPS.out.keepF HFP.out fun p h1' h2' => World.cell?_of_block (hg1.block p.block (by have := HL.out; omega) (fun e => by cases e))
          have cf := fn_any g i Ap ps.length cp ps most (wb.heap.size - 1) w2 (hide hC2) hm (hide rfl) (by omega) (hide hps2) (hide (HFP.out.more (by omega))) HPB hlt (by have := HL.out; omega)
          have CF := hide cf
          have hL2 := HL.out
          clear ho1 hg1 hC2 hps2 cf x0
          go_wp2_with fail
          refine (CF.out).mono ?_
          rintro e w3 ⟨P, A1, n1, c1, A2, n2, c2, f, rfl, hh, hfg, hp, hC3, hG3⟩
          have HO3 := hide (own_stay HO1.out (by omega) hG3)
          have HHH := hide hh
          have HFG := hide hfg
          have HPI := hide hp
          have HC3 := hide hC3
          have HG3 := hide hG3
          have hs3 : w2.heap.size ≤ w3.heap.size := hG3.size
          clear hh hfg hp hC3 hG3 CF
          go_wp2_with (at_builtin; refine wpList_append_own _ rfl (.tmp 33) (.tmp 39) 56 rfl wr.heap.size 30 j0 (.agg #[.int .i64 0, .slice none 0 0, .slice none 0 0]) 3 56 Tryd.underlying56 ji jz0 jz1 jz2 rfl (by decide) v1 i (hcells hs) rfl (HO3.out.alloc _) ⟨_, 0, none⟩ 1 1 [.int .i64 P, .slice A1 n1 c1, .slice A2 n2 c2] rfl rfl (head_new _ P A1 n1 c1 A2 n2 c2 _) (head_cells P A1 n1 c1 A2 n2 c2) (by unfold maxLen; omega) (by omega) (by simp; omega) ?_)
          intro v2 w4 ho4 hg4 _
          have rP := (((HRP.out.grown HG1.out (fun e => by cases e)).grown HG3.out (fun e => by injection e with e; omega)).alloc _).grown hg4 (own_far_block HO1.out (by omega))
          have HN := hide (FunI.add hlo hgl HFP.out HH.out HRP.out HRR.out HF.out HPS.out HL.out HG.out (by omega) HO1.out HG1.out HHH.out HFG.out HPI.out HC3.out HG3.out ho4 hg4)
          have q0 := rP.cell (k := 0) rfl
          have q1 := rP.free 0
          obtain ⟨A4, c4, rfl, _⟩ := own_seen ho4
          clear ho4 hg4 rP
          go_wp2_with fail
          go_roundw
          case rel => exact ⟨i + 1, by omega, by go_num, HN⟩
          case measure => simp [intOf]; omega
        · obtain rfl : i = ps.length := by omega
          have r0 := HRR.out.cell (k := 0) rfl
          have z0 := HRR.out.free 0
          obtain ⟨wf, hwf⟩ : ∃ wf, wr.setCell ⟨w.heap.size, 0, none⟩ (.slice A ps.length cA) = wf := ⟨_, rfl⟩
          have hfz : wf.heap.size = wr.heap.size := by rw [← hwf]; simp [World.setCell]
          have hk : ∀ p : Addr, p.block ≠ w.heap.size → wf.cell? p = wr.cell? p := fun p hp => by rw [← hwf, World.cell?_setCell_other _ _ _ _ (fun e => by subst e; exact hp rfl)]
          have hpg : PgAt wf w.heap.size wf.heap.size A ps.length cA hs F := by
            rw [hfz]
            exact (HH.out.keep fun p h1' _ => hk p (by omega)).more (Nat.le_refl _) (by omega)
          have hcell : wf.cell? ⟨w.heap.size, 0, none⟩ = some (.slice A ps.length cA) := by rw [← hwf]; exact (HRR.out.set_ 0 _).cell (k := 0) rfl
          have hgood : PgGood funcs most F := by
            have hlen : F.length = ps.length := HH.out.len
            have hall : ∀ (j : Nat) (f : Fn), F[j]? = some f → FnGood F.length j most f ∧ 0 ≤ f.params ∧ f.params ≤ 3 := fun j f e => by
              obtain ⟨a1, a2⟩ := HF.out j f e
              rw [hlen]
              exact ⟨a1, HPB.out _ (List.mem_of_getElem? a2)⟩
            refine ⟨?_, by omega, by omega, hall⟩
            rw [pgE_zero]
            refine ⟨by omega, ?_, fun f hf => ?_⟩
            · match F, hlen, HF.out with
              | f :: r, _, hF' => exact ⟨f, r, rfl, by have := (hF' 0 f rfl).2; rw [HPS0.out] at this; injection this with this; exact this.symm⟩
              | [], hlen, _ => simp at hlen; omega
            · obtain ⟨j, hj, rfl⟩ := List.mem_iff_getElem.1 hf
              exact (hall j _ (List.getElem?_eq_getElem hj)).1.err
          have hCf : Codes wf g := by rw [← hwf]; exact HC.out.kept (grown_cell wr w.heap.size 0 _) (fun k hk => by injection hk with hk; omega)
          have hGf : w.grownBy wf (some g) := by rw [← hwf]; exact HG.out.andThen (grown_cell wr w.heap.size 0 _) (fun k hk => .inl (by injection hk with hk; omega))
          have HFIN : Hid (ProgPost funcs most g w (.returned (gv A ps.length cA)) wf) := hide ⟨A, ps.length, cA, hs, F, rfl, hpg, hgood, hCf, hGf⟩
          have HWF := hide hwf
          clear hwf hfz hk hpg hgood hCf hGf
          go_wp2_with fail
          rw [HWF.out]
          exact bodyPost_ret (v := gv A ps.length cA) (by simp [results, Tryd.results24, go_sem, hcell]) rfl HFIN.out
end Go.Proofs.YtidlnecgfgnllaaDoor
end

section
/-
  A right function's code: no jump leaves it, control does not run over its end. No function of the program is named here.
-/
namespace Go.Proofs.YtidlnecgfgnllaaDoor
open Go.RowKit

theorem flow_ok {N : Nat} {f : Fn} (h : fnE N f = 0) : FlowOk f.code := by
  obtain ⟨h1, -, -, h4, h5⟩ := fnE_zero.1 h
  refine ⟨h1, fun k x hx ho => ?_, fun k x hx ho => ?_, fun k x hx ht => not_last h5 hx ht⟩
  · have h2 := opndE_zero.1 (insE_zero.1 (h4 x (List.mem_of_getElem? hx))).2.1
    rw [ho] at h2
    have h3 := withB_true.1 h2
    rw [show (shpOf 20).1 = 6 from rfl, show cntV N f 6 = (f.code.length : Int) from rfl] at h3
    exact h3
  · have h2 := opndE_zero.1 (insE_zero.1 (h4 x (List.mem_of_getElem? hx))).2.2.1
    rw [ho] at h2
    have h3 := withB_true.1 h2
    rw [show (shpOf 21).2.1 = 6 from rfl, show cntV N f 6 = (f.code.length : Int) from rfl] at h3
    exact h3
theorem flow_one {N : Nat} {f : Fn} (h : fnE N f = 0) : 1 ≤ f.code.length := closed_some (fnE_zero.1 h).2.2.2.2
theorem pg_fn {F : Pg} {k : Nat} {f : Fn} (h : pgE F = 0) (hk : F[k]? = some f) : fnE F.length f = 0 := (pgE_zero.1 h).2.2 f (List.mem_of_getElem? hk)
end Go.Proofs.YtidlnecgfgnllaaDoor
end

section
/-
  What a law package's scene keeps in memory while it chooses a function: general, no function of the program is named here.
-/
namespace Go.Proofs.YtidlnecgfgnllaaDoor
open Go.RowKit

theorem lv_ok {N : Nat} {f : Fn} (h : fnE N f = 0) (hs : f.slots.length ≤ 512) : LvOk f.code f.slots.length := by
  refine ⟨flow_ok h, fun k x hx hu => ?_, fun k x hx hu => ?_, hs⟩
  · have h4 := insE_zero.1 ((fnE_zero.1 h).2.2.2.1 x (List.mem_of_getElem? hx))
    have h2 := opndE_zero.1 h4.2.2.1
    have ho := of_decide_eq_true hu
    have h3 := withB_true.1 h2
    rcases ho with ho | ho
    · rw [ho, show (shpOf 15).2.1 = 2 from rfl, show cntV N f 2 = (f.slots.length : Int) from rfl] at h3; exact h3
    · rw [ho, show (shpOf 17).2.1 = 2 from rfl, show cntV N f 2 = (f.slots.length : Int) from rfl] at h3; exact h3
  · have h4 := insE_zero.1 ((fnE_zero.1 h).2.2.2.1 x (List.mem_of_getElem? hx))
    have h2 := opndE_zero.1 h4.2.1
    have ho := of_decide_eq_true hu
    have h3 := withB_true.1 h2
    rcases ho with ho | ho
    · rw [ho, show (shpOf 16).1 = 2 from rfl, show cntV N f 2 = (f.slots.length : Int) from rfl] at h3; exact h3
    · rw [ho, show (shpOf 17).1 = 2 from rfl, show cntV N f 2 = (f.slots.length : Int) from rfl] at h3; exact h3
theorem HdAt.cd {w : World} {lo : Nat} {P : Int} {A1 : Option Addr} {n1 c1 : Nat} {A2 : Option Addr} {n2 c2 : Nat} {f : Fn} (h : HdAt w lo w.heap.size ⟨P, A1, n1, c1, A2, n2, c2⟩ f) (hf : f.code.length ≤ 1024) : CdAt w A2 n2 f.code :=
  ⟨h.l2, by have h2 : f.code.length = n2 := h.l2; omega, h.s2⟩
theorem HdAt.grow {w w' : World} {lo g : Nat} {H : Hd} {f : Fn} (h : HdAt w lo w.heap.size H f) (hG : w.grownBy w' (some g)) (hg : g < lo) : HdAt w' lo w'.heap.size H f :=
  (h.keep fun p h1 h2 => World.cell?_of_block (hG.block p.block h2 (fun e => by injection e with e; omega))).more hG.size (Nat.le_refl _)
theorem HdAt.calls {w w' : World} {lo : Nat} {H : Hd} {f : Fn} (h : HdAt w lo w.heap.size H f) (hb : Below w.heap.size w w') : HdAt w' lo w'.heap.size H f :=
  (h.keep fun p _ h2 => World.cell?_of_block (hb.block p.block h2)).more hb.size (Nat.le_refl _)
theorem HdAt.setFar {w : World} {lo b k : Nat} {u : Value} {H : Hd} {f : Fn} (h : HdAt w lo w.heap.size H f) (hb : b < lo) : HdAt (w.setCell ⟨b, k, none⟩ u) lo (w.setCell ⟨b, k, none⟩ u).heap.size H f :=
  h.grow (fgrown_set w b k u) hb
theorem Codes.into2 {w : World} {g k j t : Nat} {cs : List Value} {u0 : Value} (h : Codes w g) (hr : Row w k t cs) (hk : g ≠ k) (hc : w.cell? ⟨k, j, none⟩ = some u0) (hu : ∀ z : Int, u0 ≠ .int .u8 z) (u : Value) : Codes (w.setCell ⟨k, j, none⟩ u) g := by
  obtain ⟨A, n, c, zs, i, r, s, h1, h2, h3, h4⟩ := h
  refine ⟨A, n, c, zs, i, r.far (p := ⟨k, j, none⟩) (fun e => hk e) u, ?_, h1, h2, h3, h4⟩
  intro q v hq
  obtain ⟨bl, off, e, hbl, hcc⟩ := s q v hq
  refine ⟨bl, off, e, hbl, ?_⟩
  have hv : ∃ z, v = .int .u8 z := by
    have := List.mem_of_getElem? hq
    simp only [cellsU8, List.mem_map] at this
    obtain ⟨z, _, rfl⟩ := this
    exact ⟨z, rfl⟩
  rw [World.cell?_setCell_other _ _ _ _ (fun e2 => by
    obtain ⟨z, rfl⟩ := hv
    rw [← e2, hc] at hcc
    injection hcc with hcc
    exact hu z hcc)]
  exact hcc
/-- What holds once the function is chosen; the two result boxes hold r2 and r3. -/
structure ScI (w : World) (g lo X : Nat) (P : Int) (A1 : Option Addr) (n1 c1 : Nat) (A2 : Option Addr) (n2 c2 : Nat) (f : Fn) (r2 r3 : List Value) (wc : World) : Prop where
  x : Row wc X 30 [.int .i64 P, .slice A1 n1 c1, .slice A2 n2 c2]
  r2 : Row wc w.heap.size 30 r2
  r3 : Row wc (w.heap.size + 1) 25 r3
  cd : Codes wc g
  h : HdAt wc lo wc.heap.size ⟨P, A1, n1, c1, A2, n2, c2⟩ f
  b : Below w.heap.size w wc
  wg : w.heap.size + 1 < g
  gl : g < lo
  gx : g < X
section
variable {w V V2 : World} {g lo X : Nat} {P : Int} {A1 : Option Addr} {n1 c1 : Nat} {A2 : Option Addr} {n2 c2 : Nat} {f : Fn} {r2 r3 : List Value}
theorem ScI.call (h : ScI w g lo X P A1 n1 c1 A2 n2 c2 f r2 r3 V) (hb : Below V.heap.size V V2) : ScI w g lo X P A1 n1 c1 A2 n2 c2 f r2 r3 V2 :=
  ⟨h.x.call hb, h.r2.call hb, h.r3.call hb, h.cd.below hb, h.h.calls hb, below_call h.b hb, h.wg, h.gl, h.gx⟩
theorem ScI.next (h : ScI w g lo X P A1 n1 c1 A2 n2 c2 f r2 r3 V) (hG : V.grownBy V2 (some g)) (hC : Codes V2 g) : ScI w g lo X P A1 n1 c1 A2 n2 c2 f r2 r3 V2 :=
  ⟨h.x.grown hG (fun e => by injection e with e; have := h.gx; omega), h.r2.grown hG (fun e => by injection e with e; have := h.wg; omega), h.r3.grown hG (fun e => by injection e with e; have := h.wg; omega), hC, h.h.grow hG h.gl, below_grown h.b hG (by have := h.wg; omega) h.b.size, h.wg, h.gl, h.gx⟩
theorem ScI.one2 (h : ScI w g lo X P A1 n1 c1 A2 n2 c2 f r2 r3 V) {k : Nat} {u0 : Value} (hc : r2[k]? = some u0) (hu : ∀ z : Int, u0 ≠ .int .u8 z) (u : Value) : ScI w g lo X P A1 n1 c1 A2 n2 c2 f (r2.set k u) r3 (V.setCell ⟨w.heap.size, k, none⟩ u) := by
  have hw := h.wg
  have hx := h.gx
  have hl := h.gl
  exact ⟨h.x.far (p := ⟨w.heap.size, k, none⟩) (by simp; omega) _, h.r2.set_ k u, h.r3.far (p := ⟨w.heap.size, k, none⟩) (by simp) _, h.cd.into2 h.r2 (by omega) (h.r2.cell hc) hu u, h.h.setFar (by omega), h.b.setCell (p := ⟨w.heap.size, k, none⟩) (Nat.le_refl _) _, hw, hl, hx⟩
theorem ScI.one3 (h : ScI w g lo X P A1 n1 c1 A2 n2 c2 f r2 r3 V) {k : Nat} {u0 : Value} (hc : r3[k]? = some u0) (hu : ∀ z : Int, u0 ≠ .int .u8 z) (u : Value) : ScI w g lo X P A1 n1 c1 A2 n2 c2 f r2 (r3.set k u) (V.setCell ⟨w.heap.size + 1, k, none⟩ u) := by
  have hw := h.wg
  have hx := h.gx
  have hl := h.gl
  exact ⟨h.x.far (p := ⟨w.heap.size + 1, k, none⟩) (by simp; omega) _, h.r2.far (p := ⟨w.heap.size + 1, k, none⟩) (by simp) _, h.r3.set_ k u, h.cd.into2 h.r3 (by omega) (h.r3.cell hc) hu u, h.h.setFar (by omega), h.b.setCell (p := ⟨w.heap.size + 1, k, none⟩) (by simp) _, hw, hl, hx⟩
/-- The function is stored into its result box. -/
theorem ScI.st2 (h : ScI w g lo X P A1 n1 c1 A2 n2 c2 f [.int .i64 0, .slice none 0 0, .slice none 0 0] r3 V) :
    ScI w g lo X P A1 n1 c1 A2 n2 c2 f [.int .i64 P, .slice A1 n1 c1, .slice A2 n2 c2] r3 (((V.setCell ⟨w.heap.size, 0, none⟩ (.int .i64 P)).setCell ⟨w.heap.size, 1, none⟩ (.slice A1 n1 c1)).setCell ⟨w.heap.size, 2, none⟩ (.slice A2 n2 c2)) :=
  ((h.one2 (k := 0) rfl (fun z e => by cases e) _).one2 (k := 1) rfl (fun z e => by cases e) _).one2 (k := 2) rfl (fun z e => by cases e) _
theorem ScI.st3 (h : ScI w g lo X P A1 n1 c1 A2 n2 c2 f r2 [.slice none 0 0] V) (v : Value) : ScI w g lo X P A1 n1 c1 A2 n2 c2 f r2 [v] (V.setCell ⟨w.heap.size + 1, 0, none⟩ v) :=
  h.one3 (k := 0) rfl (fun z e => by cases e) v
theorem ScI.sees (h : ScI w g lo X P A1 n1 c1 A2 n2 c2 f r2 r3 V) : V.cell? ⟨X, 0, none⟩ = some (.int .i64 P) ∧ V.cell? ⟨X, 1, none⟩ = some (.slice A1 n1 c1) ∧ V.cell? ⟨X, 2, none⟩ = some (.slice A2 n2 c2) := ⟨h.x.cell rfl, h.x.cell rfl, h.x.cell rfl⟩
end
theorem Anw.away {V : World} {g gL b k : Nat} {u : Value} {vs sp : List Value} {L : List (List Int)} (h : Anw V (g + 1) gL vs sp L) (hb : b < g + 1) : Anw (V.setCell ⟨b, k, none⟩ u) (g + 1) gL vs sp L := h.grown (fgrown_set V b k u) hb
/-- What holds while the function is chosen. -/
structure ScP (w : World) (g lo gt B0 : Nat) (A : Option Addr) (n c : Nat) (hs : List Hd) (F : Pg) (V : World) : Prop where
  b : Row V gt 58 [.slice A n c]
  r2 : Row V w.heap.size 30 [.int .i64 0, .slice none 0 0, .slice none 0 0]
  r3 : Row V (w.heap.size + 1) 25 [.slice none 0 0]
  cd : Codes V g
  p : PgAt V lo B0 A n c hs F
  bl : Below w.heap.size w V
  wg : w.heap.size + 1 < g
  gl : g < lo
  gt : g < gt
  bs : B0 ≤ V.heap.size
  gb : g < B0
section
variable {w V V2 : World} {g lo gt n c B0 : Nat} {A : Option Addr} {hs : List Hd} {F : Pg}
theorem ScP.call (h : ScP w g lo gt B0 A n c hs F V) (hb : Below V.heap.size V V2) : ScP w g lo gt B0 A n c hs F V2 :=
  ⟨h.b.call hb, h.r2.call hb, h.r3.call hb, h.cd.below hb, h.p.keep fun p _ h2 => World.cell?_of_block (hb.block p.block (by have := h.bs; omega)), below_call h.bl hb, h.wg, h.gl, h.gt, Nat.le_trans h.bs hb.size, h.gb⟩
theorem ScP.next (h : ScP w g lo gt B0 A n c hs F V) (hG : V.grownBy V2 (some g)) (hC : Codes V2 g) : ScP w g lo gt B0 A n c hs F V2 :=
  ⟨h.b.grown hG (fun e => by injection e with e; have := h.gt; omega), h.r2.grown hG (fun e => by injection e with e; have := h.wg; omega), h.r3.grown hG (fun e => by injection e with e; have := h.wg; omega), hC,
    h.p.grown hG h.gl h.bs, below_grown h.bl hG (by have := h.wg; omega) h.bl.size, h.wg, h.gl, h.gt, Nat.le_trans h.bs hG.size, h.gb⟩
/-- The function's box is a new block. -/
theorem ScP.made {P : Int} {A1 : Option Addr} {m1 k1 : Nat} {A2 : Option Addr} {m2 k2 : Nat} {f : Fn} (h : ScP w g lo gt B0 A n c hs F V) (hd : HdAt V lo B0 ⟨P, A1, m1, k1, A2, m2, k2⟩ f) :
    ScI w g lo V.heap.size P A1 m1 k1 A2 m2 k2 f [.int .i64 0, .slice none 0 0, .slice none 0 0] [.slice none 0 0] (V.alloc (.cells #[.int .i64 P, .slice A1 m1 k1, .slice A2 m2 k2] 30)) := by
  have h2 := h.call (below1 V (.cells #[.int .i64 P, .slice A1 m1 k1, .slice A2 m2 k2] 30))
  refine ⟨Row.new V _ _, h2.r2, h2.r3, h2.cd, (hd.keep fun p _ h2 => World.cell?_of_block ((below1 V _).block p.block (by have := h.bs; omega))).more h2.bs (Nat.le_refl _), h2.bl, h2.wg, h2.gl, by have := h.gb; have := h.bs; omega⟩
/-- The function is stored into a block that was made before. -/
theorem ScP.stored {P : Int} {A1 : Option Addr} {m1 k1 : Nat} {A2 : Option Addr} {m2 k2 : Nat} {f : Fn} (h : ScP w g lo gt B0 A n c hs F V) (hd : HdAt V lo B0 ⟨P, A1, m1, k1, A2, m2, k2⟩ f) (hx : Row V B0 30 [.int .i64 0, .slice none 0 0, .slice none 0 0]) :
    ScI w g lo B0 P A1 m1 k1 A2 m2 k2 f [.int .i64 0, .slice none 0 0, .slice none 0 0] [.slice none 0 0] (((V.setCell ⟨B0, 0, none⟩ (.int .i64 P)).setCell ⟨B0, 1, none⟩ (.slice A1 m1 k1)).setCell ⟨B0, 2, none⟩ (.slice A2 m2 k2)) := by
  have hg := h.gb
  have hw := h.wg
  have hs := h.bl.size
  refine ⟨((hx.set_ 0 _).set_ 1 _).set_ 2 _, ((h.r2.far (p := ⟨B0, 0, none⟩) (by simp; omega) _).far (p := ⟨B0, 1, none⟩) (by simp; omega) _).far (p := ⟨B0, 2, none⟩) (by simp; omega) _, ((h.r3.far (p := ⟨B0, 0, none⟩) (by simp; omega) _).far (p := ⟨B0, 1, none⟩) (by simp; omega) _).far (p := ⟨B0, 2, none⟩) (by simp; omega) _,
    ((h.cd.kept (fgrown_set _ B0 0 _) (fun k e => by injection e with e; omega)).kept (fgrown_set _ B0 1 _) (fun k e => by injection e with e; omega)).kept (fgrown_set _ B0 2 _) (fun k e => by injection e with e; omega), ?_,
    ((h.bl.setCell (p := ⟨B0, 0, none⟩) (by simp; omega) _).setCell (p := ⟨B0, 1, none⟩) (by simp; omega) _).setCell (p := ⟨B0, 2, none⟩) (by simp; omega) _, hw, h.gl, hg⟩
  refine (hd.keep fun p _ h2 => ?_).more (by simp only [World.size_setCell]; exact h.bs) (Nat.le_refl _)
  rw [World.cell?_setCell_other _ _ _ _ (fun e => by have e2 := congrArg Addr.block e; simp only at e2; omega), World.cell?_setCell_other _ _ _ _ (fun e => by have e2 := congrArg Addr.block e; simp only at e2; omega), World.cell?_setCell_other _ _ _ _ (fun e => by have e2 := congrArg Addr.block e; simp only at e2; omega)]
end
end Go.Proofs.YtidlnecgfgnllaaDoor
end

section
/-
  The contract of spillframedraw's Int: an int within the type's bounds. Condition: the receiver is a list of choices.
-/
namespace Go.Proofs.YtidlnecgfgnllaaDoor
open Go.RowKit

/-- An int is drawn. -/
def IntPostR (g : Nat) (w : World) (e : Ending) (w' : World) : Prop := ∃ v : Int, e = .returned (.int .i64 v) ∧ (-9223372036854775808 ≤ v ∧ v ≤ 9223372036854775807) ∧ Codes w' g ∧ w.grownBy w' (some g)

set_option maxHeartbeats 2000000 in
theorem intr_any (g : Nat) (w : World) (h : Hid (Codes w g)) : Calls Tryd.prog 44 #[.pointer (some ⟨g, 0, none⟩)] w (IntPostR g w) := by
  have c := next_any g
  have hgl := h.out.lt
  go_enter Tryd.func44, Tryd.ntmps44
  go_wp2_with fail
  refine (c 12 _ h (by omega) (by omega)).mono ?_
  rintro e w1 ⟨k, rfl, k0, k1, hC, hG, hz⟩
  have HC := hide hC
  have HG := hide hG
  have hw1 : w.heap.size ≤ w1.heap.size := hG.size
  clear hC hG hz
  by_cases hk : k = 11
  · subst hk
    obtain ⟨w2, hw2⟩ : ∃ w2, w1.alloc (.cells #[.int .i64 9223372036854775807, .int .i64 (-9223372036854775808), .int .i64 2147483648, .int .i64 2147483647, .int .i64 (-1), .int .i64 16777216, .int .i64 33554432, .int .i64 1048577, .int .i64 512, .int .i64 80] 3) = w2 := ⟨_, rfl⟩
    have HW2 := hide hw2
    have hr : Row w2 w1.heap.size 3 [.int .i64 9223372036854775807, .int .i64 (-9223372036854775808), .int .i64 2147483648, .int .i64 2147483647, .int .i64 (-1), .int .i64 16777216, .int .i64 33554432, .int .i64 1048577, .int .i64 512, .int .i64 80] := hw2 ▸ Row.new w1 _ _
    have HR := hide hr
    have HC2 : Hid (Codes w2 g) := hide (hw2 ▸ HC.out.alloc _)
    have HG2 : Hid (w.grownBy w2 (some g)) := hide (hw2 ▸ HG.out.trans (World.grownBy_alloc _ _ _))
    clear hw2 hr
    go_wp2_with fail
    rw [HW2.out]
    refine (c 10 _ HC2 (by omega) (by omega)).mono ?_
    rintro e w3 ⟨v, rfl, v0, v1, hC3, hG3, hz3⟩
    have HC3 := hide hC3
    have HG3 := hide (HG2.out.trans hG3)
    have hr3 := HR.out.grown hG3 (fun e => by injection e with e; omega)
    obtain ⟨v, rfl⟩ := Int.eq_ofNat_of_zero_le v0
    have hx : ∃ x : Int, (-9223372036854775808 ≤ x ∧ x ≤ 9223372036854775807) ∧ w3.cell? ⟨w1.heap.size, v, none⟩ = some (.int .i64 x) := by
      rcases (show v = 0 ∨ v = 1 ∨ v = 2 ∨ v = 3 ∨ v = 4 ∨ v = 5 ∨ v = 6 ∨ v = 7 ∨ v = 8 ∨ v = 9 by omega) with rfl | rfl | rfl | rfl | rfl | rfl | rfl | rfl | rfl | rfl <;> exact ⟨_, by omega, hr3.cell rfl⟩
    obtain ⟨x, hxr, hx⟩ := hx
    clear hC3 hG3 hz3 hr3 HR HW2
    go_wp2_with fail
    go_ret
    exact ⟨x, rfl, hxr, HC3.out, HG3.out⟩
  · have hk' : (k == 11) = false := by simpa using hk
    go_wp2_with fail
    refine (c 256 _ HC (by omega) (by omega)).mono ?_
    rintro e w2 ⟨u, rfl, u0, u1, hC2, hG2, hz2⟩
    have HC2 := hide hC2
    have HG2 := hide (HG.out.trans hG2)
    clear hC2 hG2 hz2
    go_wp2_with fail
    refine (c 7 _ HC2 (by omega) (by omega)).mono ?_
    rintro e w3 ⟨v, rfl, v0, v1, hC3, hG3, hz3⟩
    have HC3 := hide hC3
    have HG3 := hide (HG2.out.trans hG3)
    clear hC3 hG3 hz3
    go_wp2_with fail
    go_ret
    exact ⟨_, rfl, by (generalize u / 2 ^ v.toNat - k / 9 = z; unfold wrap64; omega), HC3.out, HG3.out⟩
end Go.Proofs.YtidlnecgfgnllaaDoor
end
