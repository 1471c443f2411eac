import Derived.Test.YtafegghdhdgioabMNgo
import Derived.Test.YtafegghdhdgioabMMstm
import Derived.Test.YtafegghdhdgioabMMtgm
import Derived.Test.YtafegghdhdgioabMKit
import Derived.OpenShut
import Derived.Carry
set_option linter.unusedVariables false
set_option linter.unusedSimpArgs false
section
/-
  Chapter 12's awake and scene: a right target, inputs, fuel and the size of a stack. Conditions: those of the types.
-/
namespace Go.Proofs.Ytafegghdhdgioab
open Go.RowKit

def awF : Tg := [⟨0, 16, [⟨0, 0, 0, 0, 5⟩, ⟨23, 0, 0, 0, 0⟩]⟩]
theorem aw12_i : ImmT awF := by
  intro f hf x hx
  simp [awF] at hf
  subst hf
  simp at hx
  rcases hx with rfl | rfl
  · exact ⟨show (0 : Int) ≤ 5 by decide, show (5 : Int) ≤ 18446744073709551615 by decide⟩
  · exact ⟨Int.le_refl _, show (0 : Int) ≤ 18446744073709551615 by decide⟩
theorem aw12_e : runTE 16 awF 9 16 = 0 := by unfold runTE; decide
theorem aw12_s : (runTS 16 awF [] 9 16).c.steps = 2 ∧ (runTS 16 awF [] 9 16).c.res = 5 := by
  unfold runTS
  rw [if_pos aw12_e]
  exact ⟨by kernel_rfl, by kernel_rfl⟩
set_option maxRecDepth 100000 in
set_option maxHeartbeats 4000000 in
theorem awake12_any (w : World) : Calls Try.prog 5 #[] w fun e w' => e = .returned (.bool true) ∧ Below w.heap.size w w' := by
  obtain ⟨W, hW⟩ : ∃ W, (w.alloc (.cells #[.int .i64 0, .int .i64 0, .int .i64 0, .int .i64 0, .int .u64 5, .int .i64 23, .int .i64 0, .int .i64 0, .int .i64 0, .int .u64 0] 44)).alloc (.cells #[.int .i64 0, .int .i64 16, .slice (some ⟨w.heap.size, 0, none⟩) 2 2] 47) = W := ⟨_, rfl⟩
  have HW := hide hW
  have hb := hide (show Below w.heap.size w W by rw [← hW]; exact below2 w _ _)
  have r0 := hide (show Row W w.heap.size 44 (icells [⟨0, 0, 0, 0, 5⟩, ⟨23, 0, 0, 0, 0⟩]) by rw [← hW]; exact (Row.new w _ (icells [⟨0, 0, 0, 0, 5⟩, ⟨23, 0, 0, 0, 0⟩])).alloc _)
  have r1 := hide (show Row W (w.heap.size + 1) 47 (fdcells [⟨0, 16, some ⟨w.heap.size, 0, none⟩, 2, 2⟩]) by rw [← hW]; exact (Row.new _ 47 [.int .i64 0, .int .i64 16, .slice (some ⟨w.heap.size, 0, none⟩) 2 2]).at_ (by simp))
  have HT := hide (show TgAt W 0 W.heap.size (some ⟨w.heap.size + 1, 0, none⟩) 1 1 [⟨0, 16, some ⟨w.heap.size, 0, none⟩, 2, 2⟩] awF from
    ⟨rfl, ⟨(fun e => by cases e), Nat.le_refl _, by omega⟩, Far.zero _, fun k u hu => ⟨w.heap.size + 1, 0, rfl, r1.out.lt, by rw [Nat.zero_add]; exact r1.out.cell hu⟩, ⟨rfl, fun j h f h1 h2 => by
      rcases j with _ | j
      · injection h1 with h1
        injection h2 with h2
        subst h1
        subst h2
        exact ⟨rfl, rfl, rfl, ⟨(fun e => by cases e), Nat.le_refl _, show (2 : Nat) ≤ 8796093022208 by omega⟩, Far.zero _, fun k u hu => ⟨w.heap.size, 0, rfl, r0.out.lt, by rw [Nat.zero_add]; exact r0.out.cell hu⟩⟩
      · simp at h1⟩⟩)
  have cc := tout_any 16 awF [] 9 16 none 0 0 W (hide aw12_i) (hide ⟨none, 0, 0, rfl, rfl, Nat.le_refl _, by omega, fun _ => rfl, Sees.nil_ _ _ _⟩) (hide (fun v hv => by cases hv)) HT
  unfold OutT at cc
  rw [aw12_e] at cc
  clear hW
  go_enter Try.func5, Try.ntmps5
  go_wp2_with fail
  rw [HW.out]
  refine cc.mono ?_
  rintro e w2 ⟨vt, rfl, hto, hb2⟩
  obtain ⟨At, ct, rfl⟩ := own_shape hto
  clear hto
  generalize (runTS 16 awF [] 9 16).c.trace.length = nt
  obtain ⟨c, hc⟩ : ∃ c, (runTS 16 awF [] 9 16).c = c := ⟨_, rfl⟩
  have hs := aw12_s
  rw [hc] at hs ⊢
  have hs1 : (c.steps : Int) = 2 := by omega
  have hs2 : lo c.res = 5 := by rw [hs.2]; rfl
  unfold tocells
  rw [hs1, hs2]
  have HB := hide (hb.out.trans (hb2.mono hb.out.size))
  clear hb2 cc r0 r1 HW hb hc hs
  have HB2 := hide (HB.out.alloc HB.out.size (.cells #[.int .i64 c.kind, .int .u64 c.code, .int .u64 5, .int .u64 (hi c.res), (.slice At nt ct), .int .i64 2] 37))
  go_wp2_with fail
  go_ret
  exact ⟨rfl, HB2.out⟩
theorem own_in {w : World} {base n c : Nat} {A : Option Addr} {e : TypeId} {l : List Nat} (h : w.ownsRow base e 1 (.slice A n c) n (ucells l)) (hl : l.length = n) : InAt w w.heap.size (.slice A n c) l := by
  refine ⟨A, n, c, rfl, hl, (own_le h).2, ?_, (own_le h).1, Sees.own h⟩
  rcases h.2 with ⟨he, h0⟩ | ⟨g, cap, cur, he, _, _, _, hm, _⟩
  · injection he with e1 e2 e3; omega
  · injection he with e1 e2 e3
    unfold maxLen at hm
    omega
/-- What scene gives. -/
def ScPost (w : World) (e : Ending) (w' : World) : Prop :=
  ∃ (Al : Int) (A : Option Addr) (n c : Nat) (hh : List Fd) (G : Tg) (Ai : Option Addr) (ni ci : Nat) (inp : List Nat) (fuel size gk lo : Nat),
    e = .returned (.tuple #[tv Al A n c, .slice Ai ni ci, .int .i64 (fuel : Int), .int .i64 (size : Int), .pointer (some ⟨gk, 0, none⟩)]) ∧ TgAt w' lo w'.heap.size A n c hh G ∧ tgE Al G = 0 ∧ ImmT G ∧ (∀ q ∈ G, 1 ≤ q.code.length ∧ q.code.length ≤ 1024) ∧ 1 ≤ n ∧ n ≤ 4 ∧
    InAt w' w'.heap.size (.slice Ai ni ci) inp ∧ (∀ v ∈ inp, v < 18446744073709551616) ∧ fuel < 256 ∧ size ≤ 1279 ∧ gk < lo ∧ lo ≤ w'.heap.size ∧ w.heap.size ≤ gk ∧ Codes w' gk ∧ Below w.heap.size w w'
theorem Codes.into {w : World} {g k j t : Nat} {cs : List Value} {u0 : Value} (h : Codes w g) (hr : Row w k t cs) (hk : g ≠ k) (hc : w.cell? ⟨k, j, none⟩ = some u0) (hu : ∀ z : Int, u0 ≠ .int .u8 z) (u : Value) : Codes (w.setCell ⟨k, j, none⟩ u) g := by
  obtain ⟨A, n, c, zs, i, r, s, h1, h2, h3, h4⟩ := h
  refine ⟨A, n, c, zs, i, r.far (p := ⟨k, j, none⟩) (fun e => hk e) u, ?_, h1, h2, h3, h4⟩
  intro q v hq
  obtain ⟨bl, off, e, hbl, hcc⟩ := s q v hq
  refine ⟨bl, off, e, hbl, ?_⟩
  have hv : ∃ z, v = .int .u8 z := by
    have := List.mem_of_getElem? hq
    simp only [cellsU8, List.mem_map] at this
    obtain ⟨z, _, rfl⟩ := this
    exact ⟨z, rfl⟩
  rw [World.cell?_setCell_other _ _ _ _ (fun e2 => by
    obtain ⟨z, rfl⟩ := hv
    rw [← e2, hc] at hcc
    injection hcc with hcc
    exact hu z hcc)]
  exact hcc
theorem sc_end {w v : World} {al : Int} {A Ai : Option Addr} {n c ni ci g lo ib : Nat} {hh : List Fd} {G : Tg} {inp : List Nat}
    (RR : Row v w.heap.size 26 [.int .i64 0, .slice none 0 0]) (HG : TgAt v lo v.heap.size A n c hh G) (HI : v.ownsRow ib 32 1 (.slice Ai ni ci) ni (ucells inp)) (hil : inp.length = ni) (hC : Codes v g) (hB : Below w.heap.size w v) (hwg : w.heap.size < g) (hgl : g < lo) (hgb : g < ib) :
    ∃ V, (v.setCell ⟨w.heap.size, 0, none⟩ (.int .i64 al)).setCell ⟨w.heap.size, 1, none⟩ (.slice A n c) = V ∧ Row V w.heap.size 26 [.int .i64 al, .slice A n c] ∧ TgAt V lo V.heap.size A n c hh G ∧ InAt V V.heap.size (.slice Ai ni ci) inp ∧ Codes V g ∧ Below w.heap.size w V ∧ V.heap.size = v.heap.size := by
  have hs : ((v.setCell ⟨w.heap.size, 0, none⟩ (.int .i64 al)).setCell ⟨w.heap.size, 1, none⟩ (.slice A n c)).heap.size = v.heap.size := by simp [World.setCell]
  refine ⟨_, rfl, (RR.set_ 0 _).set_ 1 _, ?_, ?_, ?_, ?_, hs⟩
  · rw [hs]
    refine HG.keep fun p h1 h2 => ?_
    rw [World.cell?_setCell_other _ _ _ _ (fun e => by have e2 := congrArg Addr.block e; simp only at e2; omega), World.cell?_setCell_other _ _ _ _ (fun e => by have e2 := congrArg Addr.block e; simp only at e2; omega)]
  · have g0 := grown_put1 v w.heap.size 0 (.int .i64 al)
    have I1 := HI.kept g0 (own_off HI (by omega))
    have g1 := grown_put1 (v.setCell ⟨w.heap.size, 0, none⟩ (.int .i64 al)) w.heap.size 1 (.slice A n c)
    exact own_in (I1.kept g1 (own_off I1 (by omega))) hil
  · have R1 := RR.set_ 0 (.int .i64 al)
    exact (hC.into RR (by omega) (RR.cell (k := 0) rfl) (fun z e => by cases e) (.int .i64 al)).into R1 (by omega) (R1.cell (k := 1) rfl) (fun z e => by cases e) (.slice A n c)
  · exact (hB.setCell (p := ⟨w.heap.size, 0, none⟩) (Nat.le_refl _) _).setCell (p := ⟨w.heap.size, 1, none⟩) (Nat.le_refl _) _
set_option maxRecDepth 100000 in
set_option maxHeartbeats 4000000 in
theorem scene12_any (A0 : Option Addr) (n0 c0 : Nat) (zs : List Int) (w : World)
    (hA : Hid (A0 = none → c0 = 0)) (hn : Hid (zs.length = n0)) (hnc : n0 ≤ c0) (hm : n0 ≤ 9223372036854775807) (hs : Hid (Sees w w.heap.size A0 (cellsU8 zs))) (hz : Hid (∀ z ∈ zs, 0 ≤ z ∧ z ≤ 255)) :
    Calls Try.prog 6 #[.slice A0 n0 c0] w (ScPost w) := by
  obtain ⟨W1, hW1⟩ : ∃ W, w.alloc (.cells #[.int .i64 0, .slice none 0 0] 26) = W := ⟨_, rfl⟩
  have HW1 := hide hW1
  have RR1 := hide (show Row W1 w.heap.size 26 [.int .i64 0, .slice none 0 0] by rw [← hW1]; exact Row.new w _ _)
  have hb1 : Below w.heap.size w W1 := by rw [← hW1]; exact below1 w _
  have HB1 := hide hb1
  have cn := new_any A0 n0 c0 zs 300 W1 hA hn hnc hm (by omega) (hide ((hs.out.below hb1).more hb1.size)) hz
  rw [show ((300 : Nat) : Int) = 300 from rfl] at cn
  have hsz1 : W1.heap.size = w.heap.size + 1 := by rw [← hW1]; simp
  clear hW1 hb1 hs hA hn hz
  go_enter Try.func6, Try.ntmps6
  go_upto_region 1 with (fail)
  rw [HW1.out]
  clear HW1
  go_wp2_with fail
  refine cn.mono ?_
  rintro e w2 ⟨rfl, hC2, hb2⟩
  obtain ⟨g, hg⟩ : ∃ g, W1.heap.size = g := ⟨_, rfl⟩
  have HB2 := hide (below_call HB1.out hb2)
  have RR2 := hide (RR1.out.call hb2)
  have hwg : w.heap.size < g := by omega
  rw [hg] at hC2 ⊢
  have hgl := hC2.lt
  have cd := dtx_any g 4 12 w2 (hide hC2) (by omega) (by omega) (by omega)
  rw [show ((4 : Nat) : Int) = 4 from rfl, show ((12 : Nat) : Int) = 12 from rfl] at cd
  clear hb2 cn hg hC2 hsz1
  go_wp2_with fail
  refine cd.mono ?_
  rintro e w3 ⟨F, A, n, c, hh, G, rfl, htg, hn1, hn2, hFl, hgd, hap, h16, hsv, hC3, hG3⟩
  have hfg := (draw_fg hgd (by omega) (by omega) hap hsv).2.2
  have HI3 := hide (show ImmT G from fun q hq x hx => (hfg q hq).imm x hx)
  have HL3 := hide (show ∀ q ∈ G, 1 ≤ q.code.length ∧ q.code.length ≤ 1024 from fun q hq => ⟨closed_some (hfg q hq).cl, (hfg q hq).n⟩)
  have HE3 := hide (draw_zero hgd (by omega) (by omega) hap h16 hsv)
  obtain ⟨al, hal⟩ : ∃ a, alP F n = a := ⟨_, rfl⟩
  rw [hal] at HE3 ⊢
  obtain ⟨P, hP⟩ : ∃ P, w3.heap.size = P := ⟨_, rfl⟩
  obtain ⟨W4, hW4⟩ : ∃ V, w3.alloc (.cells #[.int .i64 al, .slice A n c] 26) = V := ⟨_, rfl⟩
  have HW4 := hide hW4
  have HPP := hide hP
  have h34 : Below w3.heap.size w3 W4 := by rw [← hW4]; exact below1 w3 _
  have B4 := hide (below_call (below_grown HB2.out hG3 (by omega) HB2.out.size) h34)
  have R4 := hide (show Row W4 P 26 [.int .i64 al, .slice A n c] by rw [← hW4, ← hP]; exact Row.new w3 _ _)
  have RR4 := hide ((RR2.out.grown hG3 (fun e => by injection e with e; omega)).call h34)
  have G4 := hide (htg.call h34)
  have C4 := hide (hC3.below h34)
  have hs34 := h34.size
  have hs23 := hG3.size
  have hgP : g < P := by omega
  obtain ⟨lo, hlo⟩ : ∃ lo, w2.heap.size = lo := ⟨_, rfl⟩
  rw [hlo] at G4 hgl hs23
  have hloP : lo ≤ P := by omega
  clear hal hP hW4 htg hG3 hgd hap h16 hsv cd HB2 HB1 hC3 h34 hfg hlo RR1 RR2
  go_upto_region 3 with (fail)
  rw [HW4.out, HPP.out]
  clear HW4 HPP
  have hP4 := hide (show P < W4.heap.size from R4.out.lt)
  go_wp2_with fail
  refine (input_any g W4 C4).mono ?_
  rintro e w5 ⟨Ai, ni, ci, inp, rfl, hil, hin, hiA, hio, hiv, hC5, hG5⟩
  have HIV := hide hiv
  have HIL := hide hil
  have hgb : g < W4.heap.size := by have := R4.out.lt; omega
  obtain ⟨ib, hib⟩ : ∃ ib, W4.heap.size = ib := ⟨_, rfl⟩
  have I5 := hide hio
  rw [hib] at I5 hgb
  have hgw : w.heap.size ≤ g := by omega
  have B5 := hide (below_grown B4.out hG5 hgw B4.out.size)
  have R5 := hide (R4.out.grown hG5 (fun e => by injection e with e; omega))
  have RR5 := hide (RR4.out.grown hG5 (fun e => by injection e with e; omega))
  have G5 := hide ((G4.out.grown hG5 hgl (Nat.le_refl _)).more hG5.size (Nat.le_refl _))
  have C5 := hide hC5
  clear hil hin hiA hio hiv hC5 hG5 C4 B4 R4 RR4 G4 hib hP4
  go_wp2_with fail
  refine (next_any g 256 w5 C5 (by omega) (by omega)).mono ?_
  rintro e w6 ⟨a, rfl, a0, a1, hC, hG, -⟩
  have B6 := hide (below_grown B5.out hG hgw B5.out.size)
  have R6 := hide (R5.out.grown hG (fun e => by injection e with e; omega))
  have RR6 := hide (RR5.out.grown hG (fun e => by injection e with e; omega))
  have G6 := hide ((G5.out.grown hG hgl (Nat.le_refl _)).more hG.size (Nat.le_refl _))
  have C6 := hide hC
  have I6 := hide (I5.out.kept hG (own_off I5.out hgb))
  clear hC hG C5 B5 R5 RR5 G5 I5
  go_wp2_with fail
  refine (next_any g 80 w6 C6 (by omega) (by omega)).mono ?_
  rintro e w7 ⟨b, rfl, b0, b1, hC, hG, -⟩
  have B7 := hide (below_grown B6.out hG hgw B6.out.size)
  have R7 := hide (R6.out.grown hG (fun e => by injection e with e; omega))
  have RR7 := hide (RR6.out.grown hG (fun e => by injection e with e; omega))
  have G7 := hide ((G6.out.grown hG hgl (Nat.le_refl _)).more hG.size (Nat.le_refl _))
  have C7 := hide hC
  have I7 := hide (I6.out.kept hG (own_off I6.out hgb))
  clear hC hG C6 B6 R6 RR6 G6 I6
  have hw1 : IntKind.i64.wrap (16 * b) = 16 * b := by rw [IntKind.wrap_i64]; omega
  go_wp2_with fail
  refine (next_any g 4 w7 C7 (by omega) (by omega)).mono ?_
  rintro e w8 ⟨q, rfl, q0, q1, hC, hG, -⟩
  have B8 := hide (below_grown B7.out hG hgw B7.out.size)
  have R8 := hide (R7.out.grown hG (fun e => by injection e with e; omega))
  have RR8 := hide (RR7.out.grown hG (fun e => by injection e with e; omega))
  have G8 := hide ((G7.out.grown hG hgl (Nat.le_refl _)).more hG.size (Nat.le_refl _))
  have C8 := hide hC
  have I8 := hide (I7.out.kept hG (own_off I7.out hgb))
  clear hC hG C7 B7 R7 RR7 G7 I7
  obtain ⟨fuel, rfl⟩ : ∃ k : Nat, a = (k : Int) := ⟨a.toNat, by omega⟩
  have f0 := RR8.out.free 0
  have f1 := RR8.out.free 1
  by_cases hq : q = 3
  · subst hq
    go_wp2_with fail
    refine (next_any g 16 w8 C8 (by omega) (by omega)).mono ?_
    rintro e w9 ⟨d, rfl, d0, d1, hC, hG, -⟩
    have B9 := hide (below_grown B8.out hG hgw B8.out.size)
    have R9 := hide (R8.out.grown hG (fun e => by injection e with e; omega))
    have RR9 := hide (RR8.out.grown hG (fun e => by injection e with e; omega))
    have G9 := hide ((G8.out.grown hG hgl (Nat.le_refl _)).more hG.size (Nat.le_refl _))
    have C9 := hide hC
    have I9 := hide (I8.out.kept hG (own_off I8.out hgb))
    clear hC hG C8 B8 R8 RR8 G8 I8 f0 f1
    have f0 := RR9.out.free 0
    have f1 := RR9.out.free 1
    have t0 := R9.out.cell (k := 0) rfl
    have t1 := R9.out.cell (k := 1) rfl
    have s0 := RR9.out.cell (k := 0) rfl
    have s1 := RR9.out.cell (k := 1) rfl
    have hw2 : IntKind.i64.wrap (16 * b + d) = 16 * b + d := by rw [IntKind.wrap_i64]; omega
    go_wp2_with fail
    obtain ⟨V, hV, RV, GV, IV, CV, BV, hVs⟩ := sc_end (al := al) RR9.out G9.out I9.out HIL.out C9.out B9.out hwg hgl hgb
    rw [hV]
    have k0 := RV.cell (k := 0) rfl
    have k1 := RV.cell (k := 1) rfl
    obtain ⟨size, hsz⟩ : ∃ k : Nat, 16 * b + d = (k : Int) := ⟨(16 * b + d).toNat, by omega⟩
    rw [hsz]
    refine bodyPost_ret (v := .tuple #[tv al A n c, .slice Ai ni ci, .int .i64 (fuel : Int), .int .i64 (size : Int), .pointer (some ⟨g, 0, none⟩)]) (by simp [results, Try.results6, go_sem, k0, k1, tv]) rfl ?_
    have hlV := R9.out.lt
    exact ⟨al, A, n, c, hh, G, Ai, ni, ci, inp, fuel, size, g, lo, rfl, GV, HE3.out, HI3.out, HL3.out, hn1, hn2, IV, HIV.out, by omega, by omega, hgl, by have := CV.lt; omega, by omega, CV, BV⟩
  · have t0 := R8.out.cell (k := 0) rfl
    have t1 := R8.out.cell (k := 1) rfl
    have s0 := RR8.out.cell (k := 0) rfl
    have s1 := RR8.out.cell (k := 1) rfl
    go_wp2_with fail
    obtain ⟨V, hV, RV, GV, IV, CV, BV, hVs⟩ := sc_end (al := al) RR8.out G8.out I8.out HIL.out C8.out B8.out hwg hgl hgb
    rw [hV]
    have k0 := RV.cell (k := 0) rfl
    have k1 := RV.cell (k := 1) rfl
    obtain ⟨size, hsz⟩ : ∃ k : Nat, 16 * b = (k : Int) := ⟨(16 * b).toNat, by omega⟩
    rw [hsz]
    refine bodyPost_ret (v := .tuple #[tv al A n c, .slice Ai ni ci, .int .i64 (fuel : Int), .int .i64 (size : Int), .pointer (some ⟨g, 0, none⟩)]) (by simp [results, Try.results6, go_sem, k0, k1, tv]) rfl ?_
    have hlV := R8.out.lt
    exact ⟨al, A, n, c, hh, G, Ai, ni, ci, inp, fuel, size, g, lo, rfl, GV, HE3.out, HI3.out, HL3.out, hn1, hn2, IV, HIV.out, by omega, by omega, hgl, by have := CV.lt; omega, by omega, CV, BV⟩
end Go.Proofs.Ytafegghdhdgioab
end

section
/-
  Every value of a target's run's trace, and its result, are numbers of 128 bits. Nothing here names the program.
-/
namespace Go.Proofs.Ytafegghdhdgioab
open Go.RowKit

/-- The output and the result are numbers of 128 bits. -/
structure ValsC (c : Co) : Prop where
  t : ∀ v ∈ c.trace, v < two128
  r : c.res < two128
theorem ValsC.of {c d : Co} (h : ValsC c) (h1 : d.trace = c.trace) (h2 : d.res = c.res) : ValsC d := ⟨by rw [h1]; exact h.t, by rw [h2]; exact h.r⟩
theorem ValsC.setR {c : Co} (h : ValsC c) (i : Int) (v : Nat) : ValsC (c.setR i v) := by
  obtain ⟨_, _, _, e4, e5, _, _⟩ := c.setR_keeps i v
  exact h.of e5 e4
theorem execC_vals {c : Co} (hs : SmallC c) (h : ValsC c) (x : Ins) : ValsC (c.execC x) := by
  unfold Co.execC
  split
  · exact h.setR _ _
  · split
    · exact h.setR _ _
    · split
      · exact h.setR _ _
      · split
        · exact h.setR _ _
        · split
          · exact (show ValsC { c with inp := c.inp.tail } from ⟨h.t, h.r⟩).setR _ _
          · split
            · refine ⟨fun v hm => ?_, h.r⟩
              rcases List.mem_append.1 (show v ∈ c.trace ++ [c.reg x.a] from hm) with hm | hm
              · exact h.t v hm
              · rw [List.mem_singleton.1 hm]; exact hs.reg _
            · split
              · exact h
              · split
                · exact h.of rfl rfl
                · unfold Co.applyC
                  split
                  · exact h.setR _ _
                  · exact h.of rfl rfl
theorem step_valsT {F : Tg} {T0 : Nat} {s : Tm} (h : VT F T0 s) (hv : ValsC s.c) : ValsC (s.step F T0).c := by
  have hsm : SmallC (s.fetched (s.cur F)).c := ⟨h.sm.r8, h.sm.rv, h.sm.iv⟩
  have hf : ValsC (s.fetched (s.cur F)).c := hv.of rfl rfl
  unfold Tm.step Tm.exec
  generalize s.cur F = x at hsm hf
  generalize s.fetched x = u at hsm hf
  split
  · unfold Tm.access
    split
    · split
      · exact (hf.setR _ _).of rfl rfl
      · split
        · exact (hf.setR _ _).of rfl rfl
        · exact hf.setR _ _
    · split
      · split
        · exact hf.of rfl rfl
        · exact hf
      · split
        · exact hf.of rfl rfl
        · split
          · exact hf.of rfl rfl
          · exact hf
  · split
    · unfold Tm.enter
      split
      · exact hf.of rfl rfl
      · exact hf
    · split
      · unfold Tm.leave
        dsimp only
        split
        · exact ⟨hf.t, hsm.reg 0⟩
        · exact hf
      · exact execC_vals hsm hf x
theorem iter_valsT {Al : Int} {F : Tg} {T0 : Nat} (hR : RightT Al F) (him : ImmT F) : ∀ (k : Nat) (s : Tm), JT F T0 s → ValsC s.c → ValsC (iterT F T0 k s).c
  | 0, _, _, hv => hv
  | k + 1, s, h, hv => by
    rw [iterT]
    by_cases he : s.c.ended = true
    · rw [if_pos he]; exact hv
    · rw [if_neg he]
      rcases h with h | h
      · exact absurd h.1 he
      · exact iter_valsT hR him k _ (vt_step hR him h.2 h.1) (step_valsT h.2 hv)
theorem run_valsT {Al : Int} {F : Tg} (hR : RightT Al F) (him : ImmT F) {inp : List Nat} (hi : ∀ v ∈ inp, v < 18446744073709551616) {size : Nat} (hs : size ≤ 1048576) (A n : Nat) : ValsC (runT A F inp n size).c := by
  have hz : ValsC (coreZ inp) := ⟨(fun v hm => by cases hm), show (0 : Nat) < two128 by decide⟩
  by_cases h0 : n = 0
  · subst h0
    exact hz.of rfl rfl
  · rw [runT_pos h0]
    have h1 : ValsC (startT A F inp size).c := by
      unfold startT Tm.enter
      split
      · exact hz.of rfl rfl
      · exact hz
    have h := iter_valsT hR him n _ (vt_start hR hi hs (A := A)) h1
    unfold Tm.fuelled
    split
    · exact h
    · exact h.of rfl rfl
end Go.Proofs.Ytafegghdhdgioab
end

section
/-
  What Run gives at a right target, with fuel and size in their bounds.
-/
namespace Go.Proofs.Ytafegghdhdgioab
open Go.RowKit

/-- What Run gives at a right target, a fuel and a size in their bounds. -/
theorem runTE_ok {Al : Int} {F : Tg} (hE : tgE Al F = 0) {fuel size : Nat} (hf : fuel ≤ 100000) (hs : size ≤ 1048576) : runTE Al F (fuel : Int) (size : Int) = 0 := by
  unfold runTE
  rw [if_neg (by rw [hE]; simp), if_pos ⟨⟨by omega, by omega⟩, by omega, by omega⟩]
theorem runTS_ok {Al : Int} {F : Tg} (hE : tgE Al F = 0) (inp : List Nat) {fuel size : Nat} (hf : fuel ≤ 100000) (hs : size ≤ 1048576) : runTS Al F inp (fuel : Int) (size : Int) = runT Al.toNat F inp fuel size := by
  unfold runTS
  rw [if_pos (runTE_ok hE hf hs), Int.toNat_natCast, Int.toNat_natCast]
end Go.Proofs.Ytafegghdhdgioab
end

section
/-
  MachrunNeverWild's law, walked. No condition: every input that the row speaks of.
-/
namespace Go.Proofs.Ytafegghdhdgioab
open Go.RowKit

set_option maxRecDepth 100000 in
set_option maxHeartbeats 8000000 in
theorem wildlaw_walk (A0 : Option Addr) (n0 c0 : Nat) (zs : List Int) (w : World)
    (hA : Hid (A0 = none → c0 = 0)) (hn : Hid (zs.length = n0)) (hnc : n0 ≤ c0) (hm : n0 ≤ 9223372036854775807) (hs : Hid (Sees w w.heap.size A0 (cellsU8 zs))) (hz : Hid (∀ z ∈ zs, 0 ≤ z ∧ z ≤ 255)) :
    Calls Try.prog 3 #[.slice A0 n0 c0] w fun e w' => e = .returned (.bool true) ∧ Below w.heap.size w w' := by
  go_enter Try.func3, Try.ntmps3
  go_wp2_with fail
  refine (awake12_any w).mono ?_
  rintro e w1 ⟨rfl, hb1⟩
  have HB1 := hide hb1
  have HS1 := hide ((hs.out.below hb1).more hb1.size)
  clear hb1
  go_wp2_with fail
  refine (scene12_any A0 n0 c0 zs w1 hA hn hnc hm HS1 hz).mono ?_
  rintro e w2 ⟨Al, A, n, c, hh, G, Ai, ni, ci, inp, N, size, gk, lw, rfl, htg, hE, him, -, -, -, hI, hIv, hN, hsz, -, -, -, -, hb2⟩
  obtain ⟨W, hW⟩ : ∃ V, w2.alloc (.cells #[.int .i64 Al, .slice A n c] 26) = V := ⟨_, rfl⟩
  have HW := hide hW
  have hb3 := below1 w2 (.cells #[.int .i64 Al, .slice A n c] 26)
  rw [hW] at hb3
  obtain ⟨B, hB⟩ : ∃ B, w2.heap.size = B := ⟨_, rfl⟩
  have HBB := hide hB
  have RB := hide (show Row W B 26 [.int .i64 Al, .slice A n c] by rw [← hW, ← hB]; exact Row.new w2 _ _)
  have HP := hide ((htg.below hb3).more hb3.size (Nat.le_refl _))
  have HI := hide ((hI.below hb3).more hb3.size)
  have HBW := hide (HB1.out.trans ((hb2.trans (hb3.mono hb2.size)).mono HB1.out.size))
  have cr : ∀ (q : Nat) (wr : World), Hid (q ≤ 1048576) → Hid (Below W.heap.size W wr) → Calls Try.prog 7 #[tv Al A n c, .slice Ai ni ci, .int .i64 (N : Int), .int .i64 (q : Int)] wr (fun e w' => ∃ (d : Co) (At : Option Addr) (nt ct : Nat), e = .returned (.tuple #[.agg #[.int .i64 d.kind, .int .u64 d.code, .int .u64 (lo d.res), .int .u64 (hi d.res), .slice At nt ct, .int .i64 (d.steps : Int)], .int .i64 0]) ∧ d.kind ≠ 6 ∧ Below wr.heap.size wr w') := fun q wr hq HBl => by
    refine (tout_any Al G inp N q Ai ni ci wr (hide him) (hide ((HI.out.below HBl.out).more HBl.out.size)) (hide hIv) (hide ((HP.out.below HBl.out).more HBl.out.size (Nat.le_refl _)))).mono ?_
    rintro e w' ⟨vt, rfl, hto, hb⟩
    rw [runTS_ok hE inp (by omega) hq.out] at hto ⊢
    rw [runTE_ok hE (by omega) hq.out]
    obtain ⟨A1, c1, rfl⟩ := own_shape hto
    exact ⟨_, A1, _, c1, rfl, (run_kept (rightT_of hE) him hIv hq.out Al.toNat N).1, hb⟩
  have hsz2 : size ≤ 1048576 := by omega
  clear htg hE him hI hIv hb2 hb3 hW hB HS1 HB1 HI HP
  go_upto_region 4 with (fail)
  rw [HW.out, HBB.out]
  clear HW HBB
  go_upto_region 5 with (fail)
  obtain ⟨wl, hwl⟩ : ∃ V, W.alloc (.cells #[.int .i64 (size : Int), .int .i64 0, .int .i64 2048] 3) = V := ⟨_, rfl⟩
  obtain ⟨Y, hY⟩ : ∃ Y, W.heap.size = Y := ⟨_, rfl⟩
  have RN := hide (show Row wl Y 3 [.int .i64 (size : Int), .int .i64 0, .int .i64 2048] by rw [← hwl, ← hY]; exact Row.new W _ _)
  have bl : Below W.heap.size W wl := by rw [← hwl]; exact below1 W _
  have BL := hide bl
  have RL := hide (RB.out.call bl)
  rw [hwl, hY]
  have NS := hide (show ∀ k : Nat, k < 3 → ∃ N : Nat, wl.cell? ⟨Y, k, none⟩ = some (.int .i64 (N : Int)) ∧ N ≤ 1048576 from fun k hk => by
    rcases (show k = 0 ∨ k = 1 ∨ k = 2 by omega) with rfl | rfl | rfl
    · exact ⟨_, RN.out.cell (k := 0) rfl, hsz2⟩
    · exact ⟨0, RN.out.cell (k := 1) rfl, by omega⟩
    · exact ⟨2048, RN.out.cell (k := 2) rfl, by omega⟩)
  clear hwl hY bl RN RB hsz hsz2
  go_loopw [9, 10, 11, 25] (fun _ _ _ iv wr => ∃ k : Nat, k ≤ 3 ∧ iv = .int .i64 (k : Int) ∧ Hid (Below wl.heap.size wl wr)) (fun _ _ _ iv _ => 3 - (intOf iv).toNat)
  case atStart => exact ⟨0, by omega, rfl, hide (Below.refl _ _)⟩
  case round =>
    obtain ⟨k, hk3, rfl, hbq⟩ := hrel
    by_cases hlt : k < 3
    · have hkz : (0 : Int) ≤ (k : Int) := by omega
      have hkz2 : (k : Int) < 3 := by omega
      obtain ⟨q, qN, hq⟩ := NS.out k hlt
      have z0 := keep_cellB hbq.out qN
      have RQ := hide (RL.out.call hbq.out)
      have x0 := RQ.out.cell (k := 0) rfl
      have x1 := RQ.out.cell (k := 1) rfl
      have ce := cr q wr (hide hq) (hide (below_call BL.out hbq.out))
      clear qN hq
      go_wp2_with fail
      refine ce.mono ?_
      rintro e wa ⟨d, At, nt, ct, rfl, hd6, hba⟩
      have hd : (d.kind == 6) = false := by simpa using hd6
      have HN := hide ((hbq.out.trans (hba.mono hbq.out.size)).alloc (hbq.out.trans (hba.mono hbq.out.size)).size (.cells #[.int .i64 d.kind, .int .u64 d.code, .int .u64 (lo d.res), .int .u64 (hi d.res), .slice At nt ct, .int .i64 (d.steps : Int)] 37))
      clear ce hba hd6 x0 x1 z0
      go_wp2_with fail
      go_roundw
      case rel => exact ⟨k + 1, by omega, by go_num, HN⟩
      case measure => simp [intOf]; omega
    · obtain rfl : k = 3 := by omega
      have HF := hide (HBW.out.trans ((below_call BL.out hbq.out).mono HBW.out.size))
      go_wp2_with fail
      go_ret
      exact ⟨rfl, HF.out⟩
end Go.Proofs.Ytafegghdhdgioab
end

section
/-
  From the walk of a law to its row: a law that returns true and leaves all that was in memory as it was meets 'true; the input reads as it did'; what a slice of bytes that came in gives. No function of the program is named here.
-/
namespace Go.Proofs.Ytafegghdhdgioab
open Go.ChangeShapes Go.WideShapes Go.ChangeAt Go.RowKit

theorem bounds_u64 {n : Int} (h : (Lit.int .u64 n).wf = true) : 0 ≤ n ∧ n ≤ 18446744073709551615 := by
  simp [Lit.wf, IntKind.min, IntKind.max, IntKind.signed, IntKind.bits] at h
  omega

section
variable {H : Type} {enc : TypeId × Value → H} {P : Program}

theorem trodAll_after (hl : laidOutB P = true) {W W' : World} (hb : Below W.heap.size W W') : ∀ (ts : List TypeId) (vs : List Value) (ds : List (DataW H)) (ps : List MemPlace),
    (∀ t ∈ ts, P.readableRec t = true ∧ t < P.types.size) → DataW.TrodAll enc P W 0 (fun _ => true) true ts vs ds ps → (∀ x ∈ ps, x.block < W.heap.size) →
    DataW.TrodAll enc P W' 0 (fun b => decide (b < W.heap.size)) true ts vs ds ps := by
  intro ts
  induction ts with
  | nil => intro vs ds ps _ h _
           rcases vs with _ | ⟨v, vs⟩ <;> rcases ds with _ | ⟨d, ds⟩ <;> simp_all [DataW.TrodAll]
  | cons t ts ih =>
    intro vs ds ps hr h hlt
    rcases vs with _ | ⟨v, vs⟩
    · simp [DataW.TrodAll] at h
    rcases ds with _ | ⟨d, ds⟩
    · simp [DataW.TrodAll] at h
    obtain ⟨p, q, h1, h2, rfl⟩ := h
    have ht := hr t List.mem_cons_self
    exact ⟨p, q, Below.trod hl ht.1 ht.2 h1 hb (fun x hx => hlt x (List.mem_append_left _ hx)), ih vs ds q (fun t' h' => hr t' (List.mem_cons_of_mem _ h')) h2 (fun x hx => hlt x (List.mem_append_right _ hx)), rfl⟩

/-- What a law's row asks at the end. -/
theorem law_post {f : Func} {s : ChangeSpec} {apart : Bool} {W W' : World} {args : Array Value} {ds gs : List (DataW H)} {before : List MemPlace} {tb : TypeId} (hl : laidOutB P = true)
    (hp : ∀ t ∈ f.params.toList, P.readableRec t = true ∧ t < P.types.size) (hv : s.vars = []) (hr : f.resultTypes = #[tb]) (hb : P.underlying tb = some .bool)
    (hs : s.fn H ds = { results := [.lit (.bool true)], args := ds, vars := [] })
    (hW : DataW.Whole enc P f.params.toList s.vars apart W args.toList ds gs before) (hB : Below W.heap.size W W') :
    s.post enc P f apart true false false W args (.bool true) W' := by
  have hW' := hW
  obtain ⟨p, q, hA, hV, rfl, hfz, hnd⟩ := hW
  rw [hv] at hV
  obtain ⟨rfl, rfl⟩ := trodVars_none hV
  have e : s.fn H (ds ++ []) = { results := [.lit (.bool true)], args := ds, vars := [] } := by rw [List.append_nil]; exact hs
  refine ⟨ds, [], p ++ [], [], p, [], hW', ?_, ?_, ?_, hB.frame _, fun h => by cases h⟩
  · rw [e, hr]
    exact trodAll_mk1 (shut_bool hb _)
  · rw [e]
    exact trodAll_after hl hB _ _ _ _ hp hA (fun x hx => hW'.lt x (List.mem_append_left _ hx))
  · rw [e, hv]
    rfl

/-- What a slice of bytes that came in gives. -/
theorem open_u8s {W : World} {base : Nat} {t e : TypeId} {v : Value} {d : DataW H} {p : List MemPlace} (ht : P.underlying t = some (.slice e)) (he : P.underlying e = some (.int .u8)) (hc : P.cellsOf e = 1)
    (hval : Value.okWide P W .any base t v) (h : DataW.Trod enc P W 0 (fun _ => true) true t v d p) :
    ∃ (A : Option Addr) (n c : Nat) (zs : List Int), v = .slice A n c ∧ (A = none → c = 0) ∧ zs.length = n ∧ n ≤ 9223372036854775807 ∧ Sees W W.heap.size A (cellsU8 zs) ∧ (∀ z ∈ zs, 0 ≤ z ∧ z ≤ 255) ∧ n ≤ c := by
  obtain ⟨a1, len, cap, rfl⟩ := okWide_slice ht hval
  obtain ⟨fuel, hf⟩ := h
  rcases open_ints ht he hc hf with ⟨hcs, hx⟩ | ⟨a, len', cap', zs, hcs, _, hlc, hm, hz, hx, hcell, hwz⟩
  · simp [Value.cells] at hcs
    obtain ⟨rfl, rfl, rfl⟩ := hcs
    exact ⟨none, 0, 0, [], rfl, fun _ => rfl, rfl, by omega, Sees.nil_ _ _ _, fun z hz => (by cases hz), Nat.le_refl _⟩
  · simp [Value.cells] at hcs
    obtain ⟨rfl, rfl, rfl⟩ := hcs
    simp only [if_true] at hz
    have hlen : (zs.take len).length = len := by simp; omega
    refine ⟨some a, len, cap, zs.take len, rfl, fun hn => by simp at hn, hlen, by unfold maxLen at hm; omega, ?_, fun z hz' => ?_, hlc⟩
    · intro k u hu
      have hk : k < len := by
        rcases Nat.lt_or_ge k len with h1 | h1
        · exact h1
        · rw [List.getElem?_eq_none (by simp [cellsU8]; omega)] at hu; simp at hu
      rw [get_u8 (by omega)] at hu
      have hu' : u = .int .u8 (zs.getD k 0) := by
        injection hu with hu
        rw [← hu]
        simp [hk]
      subst hu'
      obtain ⟨ab, ao, spot⟩ := a
      have h0 := hcell 0 (by omega)
      have hspot : spot = none := by simpa [Addr.add] using World.cell?_spot h0
      subst hspot
      have hck := hcell k (by omega)
      rw [WideShapes.add_plain] at hck
      exact ⟨ab, ao, rfl, World.block_lt_of_cell? _ _ hck, hck⟩
    · have := bounds_u8 (hwz z (List.mem_of_mem_take hz'))
      exact ⟨by omega, by omega⟩
end
end Go.Proofs.Ytafegghdhdgioab
end
