import Derived.Test.YtjbgepjdohfhkaaMAliv
import Derived.Test.YtjbgepjdohfhkaaMDprog
import Derived.Test.YtjbgepjdohfhkaaMFok
import Derived.Deep.RegionLaw
set_option linter.unusedVariables false
set_option linter.unusedSimpArgs false
section
/-
  The contract of the law package's scene (chapter 16): a right function and a right annotation. Conditions: those of the types.
-/
namespace Go.Proofs.Ytjbgepjdohfhkaa
open Go.RowKit

theorem lv_ok {N : Nat} {f : Fn} (h : fnE N f = 0) (hs : f.slots.length ≤ 512) : LvOk f.code f.slots.length := by
  refine ⟨flow_ok h, fun k x hx hu => ?_, fun k x hx hu => ?_, hs⟩
  · have h4 := insE_zero.1 ((fnE_zero.1 h).2.2.2.1 x (List.mem_of_getElem? hx))
    have h2 := opndE_zero.1 h4.2.2.1
    have ho := of_decide_eq_true hu
    have h3 := withB_true.1 h2
    rcases ho with ho | ho
    · rw [ho, show (shpOf 15).2.1 = 2 from rfl, show cntV N f 2 = (f.slots.length : Int) from rfl] at h3; exact h3
    · rw [ho, show (shpOf 17).2.1 = 2 from rfl, show cntV N f 2 = (f.slots.length : Int) from rfl] at h3; exact h3
  · have h4 := insE_zero.1 ((fnE_zero.1 h).2.2.2.1 x (List.mem_of_getElem? hx))
    have h2 := opndE_zero.1 h4.2.1
    have ho := of_decide_eq_true hu
    have h3 := withB_true.1 h2
    rcases ho with ho | ho
    · rw [ho, show (shpOf 16).1 = 2 from rfl, show cntV N f 2 = (f.slots.length : Int) from rfl] at h3; exact h3
    · rw [ho, show (shpOf 17).1 = 2 from rfl, show cntV N f 2 = (f.slots.length : Int) from rfl] at h3; exact h3
theorem HdAt.cd {w : World} {lo : Nat} {P : Int} {A1 : Option Addr} {n1 c1 : Nat} {A2 : Option Addr} {n2 c2 : Nat} {f : Fn} (h : HdAt w lo w.heap.size ⟨P, A1, n1, c1, A2, n2, c2⟩ f) (hf : f.code.length ≤ 1024) : CdAt w A2 n2 f.code :=
  ⟨h.l2, by have h2 : f.code.length = n2 := h.l2; omega, h.s2⟩
theorem HdAt.grow {w w' : World} {lo g : Nat} {H : Hd} {f : Fn} (h : HdAt w lo w.heap.size H f) (hG : w.grownBy w' (some g)) (hg : g < lo) : HdAt w' lo w'.heap.size H f :=
  (h.keep fun p h1 h2 => World.cell?_of_block (hG.block p.block h2 (fun e => by injection e with e; omega))).more hG.size (Nat.le_refl _)
theorem HdAt.calls {w w' : World} {lo : Nat} {H : Hd} {f : Fn} (h : HdAt w lo w.heap.size H f) (hb : Below w.heap.size w w') : HdAt w' lo w'.heap.size H f :=
  (h.keep fun p _ h2 => World.cell?_of_block (hb.block p.block h2)).more hb.size (Nat.le_refl _)
theorem HdAt.setFar {w : World} {lo b k : Nat} {u : Value} {H : Hd} {f : Fn} (h : HdAt w lo w.heap.size H f) (hb : b < lo) : HdAt (w.setCell ⟨b, k, none⟩ u) lo (w.setCell ⟨b, k, none⟩ u).heap.size H f :=
  h.grow (fgrown_set w b k u) hb
/-- What scene hands back. -/
def ScPost16 (w : World) (e : Ending) (w' : World) : Prop :=
  ∃ (P : Int) (A1 : Option Addr) (n1 c1 : Nat) (A2 : Option Addr) (n2 c2 : Nat) (f : Fn) (N : Nat) (L : List (List Int)) (gL cL : Nat) (vs sp : List Value) (g lo : Nat),
    e = .returned (.tuple #[fv P A1 n1 c1 A2 n2 c2, .agg #[.slice (some ⟨gL, 0, none⟩) n2 cL], .pointer (some ⟨g, 0, none⟩)]) ∧ HdAt w' lo w'.heap.size ⟨P, A1, n1, c1, A2, n2, c2⟩ f ∧ fnE N f = 0 ∧ f.slots.length ≤ 6 ∧
    LvIn n2 n1 L ∧ SubL (solL f.code n1) L ∧ Anw w' (g + 1) gL vs sp L ∧ Codes w' g ∧ g < lo ∧ w.heap.size ≤ g ∧ Below w.heap.size w w'
theorem Codes.into2 {w : World} {g k j t : Nat} {cs : List Value} {u0 : Value} (h : Codes w g) (hr : Row w k t cs) (hk : g ≠ k) (hc : w.cell? ⟨k, j, none⟩ = some u0) (hu : ∀ z : Int, u0 ≠ .int .u8 z) (u : Value) : Codes (w.setCell ⟨k, j, none⟩ u) g := by
  obtain ⟨A, n, c, zs, i, r, s, h1, h2, h3, h4⟩ := h
  refine ⟨A, n, c, zs, i, r.far (p := ⟨k, j, none⟩) (fun e => hk e) u, ?_, h1, h2, h3, h4⟩
  intro q v hq
  obtain ⟨bl, off, e, hbl, hcc⟩ := s q v hq
  refine ⟨bl, off, e, hbl, ?_⟩
  have hv : ∃ z, v = .int .u8 z := by
    have := List.mem_of_getElem? hq
    simp only [cellsU8, List.mem_map] at this
    obtain ⟨z, _, rfl⟩ := this
    exact ⟨z, rfl⟩
  rw [World.cell?_setCell_other _ _ _ _ (fun e2 => by
    obtain ⟨z, rfl⟩ := hv
    rw [← e2, hc] at hcc
    injection hcc with hcc
    exact hu z hcc)]
  exact hcc
/-- What holds once the function is chosen; the two result boxes hold r2 and r3. -/
structure ScI (w : World) (g lo X : Nat) (P : Int) (A1 : Option Addr) (n1 c1 : Nat) (A2 : Option Addr) (n2 c2 : Nat) (f : Fn) (r2 r3 : List Value) (wc : World) : Prop where
  x : Row wc X 27 [.int .i64 P, .slice A1 n1 c1, .slice A2 n2 c2]
  r2 : Row wc w.heap.size 27 r2
  r3 : Row wc (w.heap.size + 1) 30 r3
  cd : Codes wc g
  h : HdAt wc lo wc.heap.size ⟨P, A1, n1, c1, A2, n2, c2⟩ f
  b : Below w.heap.size w wc
  wg : w.heap.size + 1 < g
  gl : g < lo
  gx : g < X
section
variable {w V V2 : World} {g lo X : Nat} {P : Int} {A1 : Option Addr} {n1 c1 : Nat} {A2 : Option Addr} {n2 c2 : Nat} {f : Fn} {r2 r3 : List Value}
theorem ScI.call (h : ScI w g lo X P A1 n1 c1 A2 n2 c2 f r2 r3 V) (hb : Below V.heap.size V V2) : ScI w g lo X P A1 n1 c1 A2 n2 c2 f r2 r3 V2 :=
  ⟨h.x.call hb, h.r2.call hb, h.r3.call hb, h.cd.below hb, h.h.calls hb, below_call h.b hb, h.wg, h.gl, h.gx⟩
theorem ScI.next (h : ScI w g lo X P A1 n1 c1 A2 n2 c2 f r2 r3 V) (hG : V.grownBy V2 (some g)) (hC : Codes V2 g) : ScI w g lo X P A1 n1 c1 A2 n2 c2 f r2 r3 V2 :=
  ⟨h.x.grown hG (fun e => by injection e with e; have := h.gx; omega), h.r2.grown hG (fun e => by injection e with e; have := h.wg; omega), h.r3.grown hG (fun e => by injection e with e; have := h.wg; omega), hC, h.h.grow hG h.gl, below_grown h.b hG (by have := h.wg; omega) h.b.size, h.wg, h.gl, h.gx⟩
theorem ScI.one2 (h : ScI w g lo X P A1 n1 c1 A2 n2 c2 f r2 r3 V) {k : Nat} {u0 : Value} (hc : r2[k]? = some u0) (hu : ∀ z : Int, u0 ≠ .int .u8 z) (u : Value) : ScI w g lo X P A1 n1 c1 A2 n2 c2 f (r2.set k u) r3 (V.setCell ⟨w.heap.size, k, none⟩ u) := by
  have hw := h.wg
  have hx := h.gx
  have hl := h.gl
  exact ⟨h.x.far (p := ⟨w.heap.size, k, none⟩) (by simp; omega) _, h.r2.set_ k u, h.r3.far (p := ⟨w.heap.size, k, none⟩) (by simp) _, h.cd.into2 h.r2 (by omega) (h.r2.cell hc) hu u, h.h.setFar (by omega), h.b.setCell (p := ⟨w.heap.size, k, none⟩) (Nat.le_refl _) _, hw, hl, hx⟩
theorem ScI.one3 (h : ScI w g lo X P A1 n1 c1 A2 n2 c2 f r2 r3 V) {k : Nat} {u0 : Value} (hc : r3[k]? = some u0) (hu : ∀ z : Int, u0 ≠ .int .u8 z) (u : Value) : ScI w g lo X P A1 n1 c1 A2 n2 c2 f r2 (r3.set k u) (V.setCell ⟨w.heap.size + 1, k, none⟩ u) := by
  have hw := h.wg
  have hx := h.gx
  have hl := h.gl
  exact ⟨h.x.far (p := ⟨w.heap.size + 1, k, none⟩) (by simp; omega) _, h.r2.far (p := ⟨w.heap.size + 1, k, none⟩) (by simp) _, h.r3.set_ k u, h.cd.into2 h.r3 (by omega) (h.r3.cell hc) hu u, h.h.setFar (by omega), h.b.setCell (p := ⟨w.heap.size + 1, k, none⟩) (by simp) _, hw, hl, hx⟩
/-- The function is stored into its result box. -/
theorem ScI.st2 (h : ScI w g lo X P A1 n1 c1 A2 n2 c2 f [.int .i64 0, .slice none 0 0, .slice none 0 0] r3 V) :
    ScI w g lo X P A1 n1 c1 A2 n2 c2 f [.int .i64 P, .slice A1 n1 c1, .slice A2 n2 c2] r3 (((V.setCell ⟨w.heap.size, 0, none⟩ (.int .i64 P)).setCell ⟨w.heap.size, 1, none⟩ (.slice A1 n1 c1)).setCell ⟨w.heap.size, 2, none⟩ (.slice A2 n2 c2)) :=
  ((h.one2 (k := 0) rfl (fun z e => by cases e) _).one2 (k := 1) rfl (fun z e => by cases e) _).one2 (k := 2) rfl (fun z e => by cases e) _
theorem ScI.st3 (h : ScI w g lo X P A1 n1 c1 A2 n2 c2 f r2 [.slice none 0 0] V) (v : Value) : ScI w g lo X P A1 n1 c1 A2 n2 c2 f r2 [v] (V.setCell ⟨w.heap.size + 1, 0, none⟩ v) :=
  h.one3 (k := 0) rfl (fun z e => by cases e) v
theorem ScI.sees (h : ScI w g lo X P A1 n1 c1 A2 n2 c2 f r2 r3 V) : V.cell? ⟨X, 0, none⟩ = some (.int .i64 P) ∧ V.cell? ⟨X, 1, none⟩ = some (.slice A1 n1 c1) ∧ V.cell? ⟨X, 2, none⟩ = some (.slice A2 n2 c2) := ⟨h.x.cell rfl, h.x.cell rfl, h.x.cell rfl⟩
end
theorem Anw.away {V : World} {g gL b k : Nat} {u : Value} {vs sp : List Value} {L : List (List Int)} (h : Anw V (g + 1) gL vs sp L) (hb : b < g + 1) : Anw (V.setCell ⟨b, k, none⟩ u) (g + 1) gL vs sp L := h.grown (fgrown_set V b k u) hb
theorem sc16_fin {w V : World} {g lo X : Nat} {P : Int} {A1 : Option Addr} {n1 c1 : Nat} {A2 : Option Addr} {n2 c2 : Nat} {f : Fn} {r2 r3 : List Value} {N gL cL : Nat} {vs sp : List Value} {L : List (List Int)} (h : ScI w g lo X P A1 n1 c1 A2 n2 c2 f r2 r3 V) (he : fnE N f = 0) (hs : f.slots.length ≤ 6) (hL : LvIn n2 n1 L) (hS : SubL (solL f.code n1) L) (hO : Anw V (g + 1) gL vs sp L) :
    ScPost16 w (.returned (.tuple #[fv P A1 n1 c1 A2 n2 c2, .agg #[.slice (some ⟨gL, 0, none⟩) n2 cL], .pointer (some ⟨g, 0, none⟩)])) V :=
  ⟨P, A1, n1, c1, A2, n2, c2, f, N, L, gL, cL, vs, sp, g, lo, rfl, h.h, he, hs, hL, hS, hO, h.cd, h.gl, by have := h.wg; omega, h.b⟩
/-- What holds while the function is chosen. -/
structure ScP (w : World) (g lo gt B0 : Nat) (A : Option Addr) (n c : Nat) (hs : List Hd) (F : Pg) (V : World) : Prop where
  b : Row V gt 49 [.slice A n c]
  r2 : Row V w.heap.size 27 [.int .i64 0, .slice none 0 0, .slice none 0 0]
  r3 : Row V (w.heap.size + 1) 30 [.slice none 0 0]
  cd : Codes V g
  p : PgAt V lo B0 A n c hs F
  bl : Below w.heap.size w V
  wg : w.heap.size + 1 < g
  gl : g < lo
  gt : g < gt
  bs : B0 ≤ V.heap.size
  gb : g < B0
section
variable {w V V2 : World} {g lo gt n c B0 : Nat} {A : Option Addr} {hs : List Hd} {F : Pg}
theorem ScP.call (h : ScP w g lo gt B0 A n c hs F V) (hb : Below V.heap.size V V2) : ScP w g lo gt B0 A n c hs F V2 :=
  ⟨h.b.call hb, h.r2.call hb, h.r3.call hb, h.cd.below hb, h.p.keep fun p _ h2 => World.cell?_of_block (hb.block p.block (by have := h.bs; omega)), below_call h.bl hb, h.wg, h.gl, h.gt, Nat.le_trans h.bs hb.size, h.gb⟩
theorem ScP.next (h : ScP w g lo gt B0 A n c hs F V) (hG : V.grownBy V2 (some g)) (hC : Codes V2 g) : ScP w g lo gt B0 A n c hs F V2 :=
  ⟨h.b.grown hG (fun e => by injection e with e; have := h.gt; omega), h.r2.grown hG (fun e => by injection e with e; have := h.wg; omega), h.r3.grown hG (fun e => by injection e with e; have := h.wg; omega), hC,
    h.p.grown hG h.gl h.bs, below_grown h.bl hG (by have := h.wg; omega) h.bl.size, h.wg, h.gl, h.gt, Nat.le_trans h.bs hG.size, h.gb⟩
/-- The function's box is a new block. -/
theorem ScP.made {P : Int} {A1 : Option Addr} {m1 k1 : Nat} {A2 : Option Addr} {m2 k2 : Nat} {f : Fn} (h : ScP w g lo gt B0 A n c hs F V) (hd : HdAt V lo B0 ⟨P, A1, m1, k1, A2, m2, k2⟩ f) :
    ScI w g lo V.heap.size P A1 m1 k1 A2 m2 k2 f [.int .i64 0, .slice none 0 0, .slice none 0 0] [.slice none 0 0] (V.alloc (.cells #[.int .i64 P, .slice A1 m1 k1, .slice A2 m2 k2] 27)) := by
  have h2 := h.call (below1 V (.cells #[.int .i64 P, .slice A1 m1 k1, .slice A2 m2 k2] 27))
  refine ⟨Row.new V _ _, h2.r2, h2.r3, h2.cd, (hd.keep fun p _ h2 => World.cell?_of_block ((below1 V _).block p.block (by have := h.bs; omega))).more h2.bs (Nat.le_refl _), h2.bl, h2.wg, h2.gl, by have := h.gb; have := h.bs; omega⟩
/-- The function is stored into a block that was made before. -/
theorem ScP.stored {P : Int} {A1 : Option Addr} {m1 k1 : Nat} {A2 : Option Addr} {m2 k2 : Nat} {f : Fn} (h : ScP w g lo gt B0 A n c hs F V) (hd : HdAt V lo B0 ⟨P, A1, m1, k1, A2, m2, k2⟩ f) (hx : Row V B0 27 [.int .i64 0, .slice none 0 0, .slice none 0 0]) :
    ScI w g lo B0 P A1 m1 k1 A2 m2 k2 f [.int .i64 0, .slice none 0 0, .slice none 0 0] [.slice none 0 0] (((V.setCell ⟨B0, 0, none⟩ (.int .i64 P)).setCell ⟨B0, 1, none⟩ (.slice A1 m1 k1)).setCell ⟨B0, 2, none⟩ (.slice A2 m2 k2)) := by
  have hg := h.gb
  have hw := h.wg
  have hs := h.bl.size
  refine ⟨((hx.set_ 0 _).set_ 1 _).set_ 2 _, ((h.r2.far (p := ⟨B0, 0, none⟩) (by simp; omega) _).far (p := ⟨B0, 1, none⟩) (by simp; omega) _).far (p := ⟨B0, 2, none⟩) (by simp; omega) _, ((h.r3.far (p := ⟨B0, 0, none⟩) (by simp; omega) _).far (p := ⟨B0, 1, none⟩) (by simp; omega) _).far (p := ⟨B0, 2, none⟩) (by simp; omega) _,
    ((h.cd.kept (fgrown_set _ B0 0 _) (fun k e => by injection e with e; omega)).kept (fgrown_set _ B0 1 _) (fun k e => by injection e with e; omega)).kept (fgrown_set _ B0 2 _) (fun k e => by injection e with e; omega), ?_,
    ((h.bl.setCell (p := ⟨B0, 0, none⟩) (by simp; omega) _).setCell (p := ⟨B0, 1, none⟩) (by simp; omega) _).setCell (p := ⟨B0, 2, none⟩) (by simp; omega) _, hw, h.gl, hg⟩
  refine (hd.keep fun p _ h2 => ?_).more (by simp only [World.size_setCell]; exact h.bs) (Nat.le_refl _)
  rw [World.cell?_setCell_other _ _ _ _ (fun e => by have e2 := congrArg Addr.block e; simp only at e2; omega), World.cell?_setCell_other _ _ _ _ (fun e => by have e2 := congrArg Addr.block e; simp only at e2; omega), World.cell?_setCell_other _ _ _ _ (fun e => by have e2 := congrArg Addr.block e; simp only at e2; omega)]
end
set_option maxRecDepth 100000 in
set_option maxHeartbeats 4000000 in
theorem scene16_any (A0 : Option Addr) (n0 c0 : Nat) (zs : List Int) (w : World)
    (hA : Hid (A0 = none → c0 = 0)) (hn : Hid (zs.length = n0)) (hnc : n0 ≤ c0) (hm : n0 ≤ 9223372036854775807) (hs : Hid (Sees w w.heap.size A0 (cellsU8 zs))) (hz : Hid (∀ z ∈ zs, 0 ≤ z ∧ z ≤ 255)) :
    Calls Try.prog 7 #[.slice A0 n0 c0] w (ScPost16 w) := by
  obtain ⟨W0, hW0⟩ : ∃ V, (w.alloc (.cells #[.int .i64 0, .slice none 0 0, .slice none 0 0] 27)).alloc (.cells #[.slice none 0 0] 30) = V := ⟨_, rfl⟩
  have HW0 := hide hW0
  have HB0 := hide (show Below w.heap.size w W0 by rw [← hW0]; exact below2 _ _ _)
  have HR0 := hide (show Row W0 w.heap.size 27 [.int .i64 0, .slice none 0 0, .slice none 0 0] by rw [← hW0]; exact (Row.new w _ _).alloc _)
  have HQ0 := hide (show Row W0 (w.heap.size + 1) 30 [.slice none 0 0] by rw [← hW0]; exact (Row.new _ _ _).at_ (by simp))
  have hs0 : W0.heap.size = w.heap.size + 2 := by rw [← hW0]; simp
  have HS0 := hide hs0
  clear hW0 hs0
  go_enter Try.func7, Try.ntmps7
  go_upto_region 1 with (fail)
  rw [HW0.out]
  clear HW0
  go_wp2_with fail
  refine (new_any A0 n0 c0 zs 250 W0 hA hn hnc hm (by omega) (hide ((hs.out.below HB0.out).more HB0.out.size)) hz).mono ?_
  rintro e W1 ⟨rfl, hC1, hb1⟩
  obtain ⟨g, hg⟩ : ∃ g, W0.heap.size = g := ⟨_, rfl⟩
  have HB1 := hide (below_call HB0.out hb1)
  have HR1 := hide (HR0.out.call hb1)
  have HQ1 := hide (HQ0.out.call hb1)
  rw [hg] at hC1 ⊢
  have HC1 := hide hC1
  have hgw : g = w.heap.size + 2 := by have := HS0.out; omega
  have hg1 := hC1.lt
  have hwg : w.heap.size + 1 < g := by omega
  clear hC1 hb1 hg hgw hs hz hA hn HB0 HR0 HQ0 HS0
  go_upto_region 3 with (go_at_call 16; refine (prog_any g 3 16 W1 HC1 (by omega) (by omega) (by omega)).mono ?_; rintro e W2 ⟨A, n, c, hs, F, rfl, hpg, hgd, hC2, hG2⟩)
  obtain ⟨W3, hW3⟩ : ∃ V, W2.alloc (.cells #[.slice A n c] 49) = V := ⟨_, rfl⟩
  have hb3 : Below W2.heap.size W2 W3 := by rw [← hW3]; exact below1 _ _
  have RB := hide (show Row W3 W2.heap.size 49 [.slice A n c] by rw [← hW3]; exact Row.new W2 _ _)
  have RR := hide ((HR1.out.grown hG2 (fun e => by injection e with e; omega)).call hb3)
  have RQ := hide ((HQ1.out.grown hG2 (fun e => by injection e with e; omega)).call hb3)
  have HC3 := hide (hC2.below hb3)
  have HP3 := hide ((hpg.below hb3).more hb3.size (Nat.le_refl _))
  have HB3 := hide (show Below w.heap.size w W3 from (below_grown HB1.out hG2 (by omega) HB1.out.size).trans (hb3.mono (Nat.le_trans HB1.out.size hG2.size)))
  have hn1 : 1 ≤ n ∧ n ≤ 3 := by have h1 := hgd.one; have h2 := hgd.few; have h3 := hpg.len; omega
  obtain ⟨hn1a, hn1b⟩ := hn1
  have HE := hide hgd.err
  have HGF := hide hgd.fn
  have hgl : W1.heap.size ≤ W2.heap.size := hG2.size
  obtain ⟨gt, hgt⟩ : ∃ q, W2.heap.size = q := ⟨_, rfl⟩
  rw [hW3]
  rw [hgt] at RB hgl ⊢
  have hgg : g < gt := by omega
  obtain ⟨lo1, hlo⟩ : ∃ q, W1.heap.size = q := ⟨_, rfl⟩
  rw [hlo] at HP3 hg1 hgl
  have HSL := hide (show lo1 ≤ W3.heap.size by have h6 := hgl; have h7 := RB.out.lt; omega)
  clear hW3 hb3 hpg hgd hC2 hG2 hgt HR1 HQ1 HC1 HB1 hlo
  go_cut [7] (fun v wx => ∃ (X : Nat) (P : Int) (A1 : Option Addr) (m1 k1 : Nat) (A2 : Option Addr) (m2 k2 : Nat) (f : Fn) (N : Nat), v = .pointer (some ⟨X, 0, none⟩) ∧ Hid (fnE N f = 0) ∧ Hid (f.slots.length ≤ 6) ∧ Hid (ScI w g lo1 X P A1 m1 k1 A2 m2 k2 f [.int .i64 0, .slice none 0 0, .slice none 0 0] [.slice none 0 0] wx))
  case first =>
    obtain ⟨bA, oA, -, -, -, -, -, -, -, -, rfl, -, -, -, -, -, -, -⟩ := fn_at HP3.out (k := 0) (by omega)
    have b0 := RB.out.cell (k := 0) rfl
    have cn := fun (V : World) (h : Hid (Codes V g)) => next_any g (n : Int) V h (by omega) (by omega)
    have J0 := hide (show ScP w g lo1 gt W3.heap.size (some ⟨bA, oA, none⟩) n c hs F W3.drew from ScP.call ⟨RB.out, RR.out, RQ.out, HC3.out, HP3.out, HB3.out, hwg, hg1, hgg, Nat.le_refl _, Nat.lt_trans hgg RB.out.lt⟩ (Below.refl _ _).drew)
    have J1 := hide (J0.out.call (below1 W3.drew (.cells #[.int .i64 0, .slice none 0 0, .slice none 0 0] 27)))
    have b1 : (W3.alloc (.cells #[.int .i64 0, .slice none 0 0, .slice none 0 0] 27)).cell? ⟨gt, 0, none⟩ = some (.slice (some ⟨bA, oA, none⟩) n c) := J1.out.b.cell (k := 0) rfl
    have X1 := hide (show Row (W3.drew.alloc (.cells #[.int .i64 0, .slice none 0 0, .slice none 0 0] 27)) W3.heap.size 27 [.int .i64 0, .slice none 0 0, .slice none 0 0] from Row.new W3.drew _ _)
    have hgX : g < W3.heap.size := by have h1 := J0.out.gt; have h2 := J0.out.b.lt; exact Nat.lt_trans h1 h2
    clear RB RR RQ HC3 HP3 HB3
    go_region_law
      (first
        | (go_simp; go_at_call 17; refine (cn _ (by first | exact hide J0.out.cd | exact hide J1.out.cd)).mono ?_; rintro e w5 ⟨v, rfl, v0, v1, hC5, hG5, hz5⟩; have J5 := hide (show ScP w g lo1 gt W3.heap.size (some ⟨bA, oA, none⟩) n c hs F w5 from by first | exact J0.out.next hG5 hC5 | exact J1.out.next hG5 hC5); have b5 := J5.out.b.cell (k := 0) rfl; have b6 := (J5.out.call (below1 w5 (.cells #[.int .i64 0, .slice none 0 0, .slice none 0 0] 27))).b.cell (k := 0) rfl; obtain ⟨v', rfl⟩ : ∃ k : Nat, v = (k : Int) := ⟨v.toNat, by omega⟩; obtain ⟨b', o', P, A1, m1, k1, A2, m2, k2, f, he, -, hf, -, hd, d0, d1, d2⟩ := fn_at J5.out.p (show v' < n by omega); injection he with he; injection he with he1 he2; subst he1 he2; have g0 := keep_cellB (below1 w5 (.cells #[.int .i64 0, .slice none 0 0, .slice none 0 0] 27)) d0; have g1 := keep_cellB (below1 w5 (.cells #[.int .i64 0, .slice none 0 0, .slice none 0 0] 27)) d1; have g2 := keep_cellB (below1 w5 (.cells #[.int .i64 0, .slice none 0 0, .slice none 0 0] 27)) d2; have FE := hide (pg_fn HE.out hf); have FG := hide (HGF.out _ _ hf).1.few; have HD := hide hd; (try have X5 := hide (X1.out.grown hG5 (fun e => by injection e with e; omega))); (try have x0 := X5.out.cell (k := 0) rfl); (try have x1 := X5.out.cell (k := 1) rfl); (try have x2 := X5.out.cell (k := 2) rfl); (try have f0 := X5.out.free 0); (try have f1 := X5.out.free 1); (try have f2 := X5.out.free 2); clear hf hd hz5))
    all_goals
      first
        | (obtain ⟨W7, hW7⟩ : ∃ W, ((w5.setCell ⟨W3.heap.size, 0, none⟩ (.int .i64 P)).setCell ⟨W3.heap.size, 1, none⟩ (.slice A1 m1 k1)).setCell ⟨W3.heap.size, 2, none⟩ (.slice A2 m2 k2) = W := ⟨_, rfl⟩
           rw [hW7]
           have S7 := hide (show ScI w g lo1 W3.heap.size P A1 m1 k1 A2 m2 k2 f [.int .i64 0, .slice none 0 0, .slice none 0 0] [.slice none 0 0] W7 by rw [← hW7]; exact J5.out.stored HD.out X5.out)
           clear hW7 J0 J1 J5 X5 x0 x1 x2 f0 f1 f2 b5 b6 b1 d0 d1 d2 g0 g1 g2 X1 cn
           go_wp2_with fail
           go_meet
           exact ⟨_, _, _, _, _, _, _, _, f, _, rfl, FE, FG, S7⟩)
        | (obtain ⟨W7, hW7⟩ : ∃ W, w5.alloc (.cells #[.int .i64 P, .slice A1 m1 k1, .slice A2 m2 k2] 27) = W := ⟨_, rfl⟩
           rw [hW7]
           have S7 := hide (show ScI w g lo1 w5.heap.size P A1 m1 k1 A2 m2 k2 f [.int .i64 0, .slice none 0 0, .slice none 0 0] [.slice none 0 0] W7 by rw [← hW7]; exact J5.out.made HD.out)
           clear hW7 J0 J1 J5 b5 b6 b1 d0 d1 d2 g0 g1 g2 X1 cn
           go_wp2_with fail
           go_meet
           exact ⟨_, _, _, _, _, _, _, _, f, _, rfl, FE, FG, S7⟩)
  case rest =>
    obtain ⟨X, P, A1, m1, k1, A2, m2, k2, f, N, rfl, FE, FG, HS⟩ := hcut
    have hfl : f.code.length ≤ 1024 := (fnE_zero.1 FE.out).1
    have hc1 : 1 ≤ m2 := by have h := flow_one FE.out; have h2 : f.code.length = m2 := HS.out.h.l2; omega
    have hs1 : f.slots.length = m1 := HS.out.h.l1
    have HOK := hide (show LvOk f.code m1 by rw [← hs1]; exact lv_ok FE.out (by have := FG.out; omega))
    have LV := hide (fun (r2 r3 : List Value) (V : World) (h : Hid (ScI w g lo1 X P A1 m1 k1 A2 m2 k2 f r2 r3 V)) => lives_any (P := P) (A1 := A1) (c1 := k1) (c2 := k2) V (hide (h.out.h.cd hfl)) HOK (hide h.out.cd) hc1)
    have J0 := hide (HS.out.call (Below.refl _ _).drew)
    have J1 := hide J0.out.st2
    have HS0 := J0.out.sees
    have HS1 := J1.out.sees
    have a0 := J0.out.r2.cell (k := 0) rfl
    have a1 := J0.out.r2.cell (k := 1) rfl
    have a2 := J0.out.r2.cell (k := 2) rfl
    have af := fun k => J0.out.r2.free k
    have hwl : w.heap.size + 1 < w.heap.size + 2 := by omega
    clear RB RR RQ HC3 HP3 HB3 HE HGF HSL HS
    go_upto_region 4 with (fail)
    go_region_held3 (fun V => V.cell? ⟨X, 0, none⟩ = some (.int .i64 P) ∧ V.cell? ⟨X, 1, none⟩ = some (.slice A1 m1 k1) ∧ V.cell? ⟨X, 2, none⟩ = some (.slice A2 m2 k2))
      (first | exact HS0 | exact HS1 | exact HS6 | exact HS7 | exact HS8 | exact HS9 | exact HS10)
      (first
        | (go_at_call 18; with_reducible refine Calls.mono (LV.out _ _ _ J1) ?_; intro e w6 h6; unfold LivPost at h6; obtain ⟨L, gL, cL, vs, sp, rfl, hLI, hLS, hO, hC6, hG6⟩ := h6; have HLI := hide hLI; have HLS := hide hLS; have J6 := hide (J1.out.next hG6 hC6); have HS6 := J6.out.sees; have O6 := hide (hO.lower (show g + 1 ≤ _ from by have := J1.out.cd.lt; omega)); have J8 := hide (J6.out.st3 (.slice (some ⟨gL, 0, none⟩) m2 cL)); have HS8 := J8.out.sees; have e0 := J6.out.r3.cell (k := 0) rfl; have e1 := J6.out.r3.free 0; clear hLI hLS hO hC6 hG6)
        | (go_at_call 18; with_reducible refine Calls.mono (LV.out _ _ _ J0) ?_; intro e w6 h6; unfold LivPost at h6; obtain ⟨L, gL, cL, vs, sp, rfl, hLI, hLS, hO, hC6, hG6⟩ := h6; have HLI := hide hLI; have HLS := hide hLS; have J6 := hide (J0.out.next hG6 hC6); have HS6 := J6.out.sees; have O6 := hide (hO.lower (show g + 1 ≤ _ from by have := J0.out.cd.lt; omega)); have J7 := hide J6.out.st2; have HS7 := J7.out.sees; have J8 := hide (J7.out.st3 (.slice (some ⟨gL, 0, none⟩) m2 cL)); have HS8 := J8.out.sees; have J9 := hide (J6.out.st3 (.slice (some ⟨gL, 0, none⟩) m2 cL)); have HS9 := J9.out.sees; have J10 := hide J9.out.st2; have HS10 := J10.out.sees; have e0 := J6.out.r3.cell (k := 0) rfl; have e1 := J6.out.r3.free 0; have b0 := J6.out.r2.cell (k := 0) rfl; have b1 := J6.out.r2.cell (k := 1) rfl; have b2 := J6.out.r2.cell (k := 2) rfl; have bf := fun k => J6.out.r2.free k; have c0 := J7.out.r3.cell (k := 0) rfl; have c1 := J7.out.r3.free 0; have d0 := J9.out.r2.cell (k := 0) rfl; have d1 := J9.out.r2.cell (k := 1) rfl; have d2 := J9.out.r2.cell (k := 2) rfl; have df := fun k => J9.out.r2.free k; clear hLI hLS hO hC6 hG6))
    all_goals
      first
        | (obtain ⟨W9, hW9⟩ : ∃ W, (w6.setCell ⟨w.heap.size + 1, 0, none⟩ (.slice (some ⟨gL, 0, none⟩) m2 cL)) = W := ⟨_, rfl⟩
           rw [hW9]
           have F9 := hide (show ScI w g lo1 X P A1 m1 k1 A2 m2 k2 f [.int .i64 P, .slice A1 m1 k1, .slice A2 m2 k2] [(.slice (some ⟨gL, 0, none⟩) m2 cL)] W9 by rw [← hW9]; exact J8.out)
           have O9 := hide (show Anw W9 (g + 1) gL vs sp L by rw [← hW9]; exact (O6.out.away (by omega)))
           have y0 := F9.out.r2.cell (k := 0) rfl
           have y1 := F9.out.r2.cell (k := 1) rfl
           have y2 := F9.out.r2.cell (k := 2) rfl
           have y3 := F9.out.r3.cell (k := 0) rfl
           have HFIN := hide (sc16_fin (cL := cL) F9.out FE.out FG.out HLI.out HLS.out O9.out)
           clear hW9 HS0 HS1 HS6 a0 a1 a2 af e0 e1 J0 J1 J6 J8 LV
           go_wp2_with fail
           exact bodyPost_ret (v := .tuple #[fv P A1 m1 k1 A2 m2 k2, .agg #[(.slice (some ⟨gL, 0, none⟩) m2 cL)], .pointer (some ⟨g, 0, none⟩)]) (by simp [results, Try.results7, go_sem, y0, y1, y2, y3]) rfl HFIN.out)
        | (obtain ⟨W9, hW9⟩ : ∃ W, ((((w6.setCell ⟨w.heap.size, 0, none⟩ (.int .i64 P)).setCell ⟨w.heap.size, 1, none⟩ (.slice A1 m1 k1)).setCell ⟨w.heap.size, 2, none⟩ (.slice A2 m2 k2)).setCell ⟨w.heap.size + 1, 0, none⟩ (.slice (some ⟨gL, 0, none⟩) m2 cL)) = W := ⟨_, rfl⟩
           rw [hW9]
           have F9 := hide (show ScI w g lo1 X P A1 m1 k1 A2 m2 k2 f [.int .i64 P, .slice A1 m1 k1, .slice A2 m2 k2] [(.slice (some ⟨gL, 0, none⟩) m2 cL)] W9 by rw [← hW9]; exact J8.out)
           have O9 := hide (show Anw W9 (g + 1) gL vs sp L by rw [← hW9]; exact ((((O6.out.away (by omega)).away (by omega)).away (by omega)).away (by omega)))
           have y0 := F9.out.r2.cell (k := 0) rfl
           have y1 := F9.out.r2.cell (k := 1) rfl
           have y2 := F9.out.r2.cell (k := 2) rfl
           have y3 := F9.out.r3.cell (k := 0) rfl
           have HFIN := hide (sc16_fin (cL := cL) F9.out FE.out FG.out HLI.out HLS.out O9.out)
           clear hW9 HS0 HS1 HS6 a0 a1 a2 af e0 e1 J0 J1 J6 J8 LV
           go_wp2_with fail
           exact bodyPost_ret (v := .tuple #[fv P A1 m1 k1 A2 m2 k2, .agg #[(.slice (some ⟨gL, 0, none⟩) m2 cL)], .pointer (some ⟨g, 0, none⟩)]) (by simp [results, Try.results7, go_sem, y0, y1, y2, y3]) rfl HFIN.out)
        | (obtain ⟨W9, hW9⟩ : ∃ W, ((((w6.setCell ⟨w.heap.size + 1, 0, none⟩ (.slice (some ⟨gL, 0, none⟩) m2 cL)).setCell ⟨w.heap.size, 0, none⟩ (.int .i64 P)).setCell ⟨w.heap.size, 1, none⟩ (.slice A1 m1 k1)).setCell ⟨w.heap.size, 2, none⟩ (.slice A2 m2 k2)) = W := ⟨_, rfl⟩
           rw [hW9]
           have F9 := hide (show ScI w g lo1 X P A1 m1 k1 A2 m2 k2 f [.int .i64 P, .slice A1 m1 k1, .slice A2 m2 k2] [(.slice (some ⟨gL, 0, none⟩) m2 cL)] W9 by rw [← hW9]; exact J10.out)
           have O9 := hide (show Anw W9 (g + 1) gL vs sp L by rw [← hW9]; exact ((((O6.out.away (by omega)).away (by omega)).away (by omega)).away (by omega)))
           have y0 := F9.out.r2.cell (k := 0) rfl
           have y1 := F9.out.r2.cell (k := 1) rfl
           have y2 := F9.out.r2.cell (k := 2) rfl
           have y3 := F9.out.r3.cell (k := 0) rfl
           have HFIN := hide (sc16_fin (cL := cL) F9.out FE.out FG.out HLI.out HLS.out O9.out)
           clear hW9 HS0 HS1 HS6 a0 a1 a2 af e0 e1 J0 J1 J6 J8 LV
           go_wp2_with fail
           exact bodyPost_ret (v := .tuple #[fv P A1 m1 k1 A2 m2 k2, .agg #[(.slice (some ⟨gL, 0, none⟩) m2 cL)], .pointer (some ⟨g, 0, none⟩)]) (by simp [results, Try.results7, go_sem, y0, y1, y2, y3]) rfl HFIN.out)
end Go.Proofs.Ytjbgepjdohfhkaa
end
