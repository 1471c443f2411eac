import Derived.Test.YtidlnecgfgnllaaDoorMBtrem
import Derived.Test.YtidlnecgfgnllaaDoorMLce3
import Derived.Test.YtidlnecgfgnllaaDoorMLawk
import Derived.Test.YtidlnecgfgnllaaDoorMLscn
import Derived.Test.YtidlnecgfgnllaaDoorMLcr
import Derived.Test.YtidlnecgfgnllaaDoorMLcs
import Derived.Test.YtidlnecgfgnllaaDoorMAsal
import Derived.Test.YtidlnecgfgnllaaDoorMLaw
import Derived.Test.YtidlnecgfgnllaaDoorTie
import Derived.Test.YtidlnecgfgnllaaDoorCards
import Derived.SevenTiedAt
set_option linter.unusedVariables false
set_option linter.unusedSimpArgs false
section
/-
  The contract of the reference's within on lists of ints. Condition: at most 2^40 ints.
-/
namespace Go.Proofs.YtidlnecgfgnllaaDoor
open Go.RowKit
theorem rwithin_any (A : Option Addr) (n c : Nat) (zs : List Int) (A' : Option Addr) (n' c' : Nat) (ys : List Int) (w : World) (h : Hid (Lst w A n zs)) (h' : Hid (Lst w A' n' ys)) (hm : n ≤ 1099511627776) :
    Calls Tryd.prog 18 #[.slice A n c, .slice A' n' c'] w fun e w' => e = .returned (.bool (decide (minusL zs ys = []))) ∧ Below w.heap.size w w' := by
  obtain ⟨l, el⟩ : ∃ l, minusL zs ys = l := ⟨_, rfl⟩
  have cm := rminus_any A n c zs A' n' c' ys w h h' hm
  rw [el] at cm ⊢
  clear el
  generalize hb : decide (l = []) = b
  have hB : ((l.length : Int) == 0) = b := by
    rw [← hb, Bool.eq_iff_iff, decide_eq_true_iff, beq_iff_eq, ← List.length_eq_zero_iff]
    omega
  clear hb
  go_enter Tryd.func18, Tryd.ntmps18
  go_wp2_with fail
  refine cm.mono ?_
  rintro e w' ⟨A2, c2, rfl, -, hb2⟩
  have HB2 := hide hb2
  clear hb2 cm
  generalize l.length = m at hB
  go_wp2_with fail
  go_ret
  exact ⟨rfl, HB2.out⟩
section
variable {A A' : Option Addr} {n n' : Nat} {a b r : List Int} {w : World}
theorem s_within (c c' : Nat) {v : Bool} (h : Hid (Lst w A n a)) (h' : Hid (Lst w A' n' b)) (ha : Hid (Asc a)) (hr : Hid (decide (minusL a b = []) = v)) : Calls Tryd.prog 18 #[.slice A n c, .slice A' n' c'] w fun e w' => e = .returned (.bool v) ∧ Below w.heap.size w w' := by
  have := rwithin_any A n c a A' n' c' b w h h' (by have := few h ha; omega)
  rwa [hr.out] at this
end
end Go.Proofs.YtidlnecgfgnllaaDoor
end

section
/-
  The walk of the law LivecheckIsSound: for all codes it returns true, and what was in memory before the call is as it was. Conditions: those of the types; the table of TrailingZeros64 lies as its initialiser lays it.
-/
namespace Go.Proofs.YtidlnecgfgnllaaDoor
open Go.RowKit

set_option maxRecDepth 100000 in
set_option maxHeartbeats 8000000 in
theorem lslaw_walk (A0 : Option Addr) (n0 c0 : Nat) (zs : List Int) (w : World)
    (hA : Hid (A0 = none → c0 = 0)) (hn : Hid (zs.length = n0)) (hnc : n0 ≤ c0) (hm : n0 ≤ 9223372036854775807) (hs : Hid (Sees w w.heap.size A0 (cellsU8 zs))) (hz : Hid (∀ z ∈ zs, 0 ≤ z ∧ z ≤ 255)) (hT : Hid (Tab w)) :
    Calls Tryd.prog 5 #[.slice A0 n0 c0] w fun e w' => e = .returned (.bool true) ∧ Below w.heap.size w w' := by
  go_enter Tryd.func5, Tryd.ntmps5
  go_wp2_with fail
  refine (awake17_any w hT).mono ?_
  rintro e w1 ⟨rfl, hb1⟩
  have HB1 := hide hb1
  have HS1 := hide ((hs.out.below hb1).more hb1.size)
  clear hb1
  go_wp2_with fail
  refine (scene17_any A0 n0 c0 zs w1 hA hn hnc hm HS1 hz).mono ?_
  rintro e w2 ⟨P, A1, n1, c1, A2, n2, c2, f, N, AL, nL, cL, L, g, lo, rfl, hH, hE, hF, hO, hCd, hgl, hwg, hb2⟩
  obtain ⟨W, hW⟩ : ∃ V, (w2.alloc (.cells #[.int .i64 P, .slice A1 n1 c1, .slice A2 n2 c2] 30)).alloc (.cells #[.slice AL nL cL] 25) = V := ⟨_, rfl⟩
  have hb3 : Below w2.heap.size w2 W := by rw [← hW]; exact below2 _ _ _
  obtain ⟨B, hB⟩ : ∃ B, w2.heap.size = B := ⟨_, rfl⟩
  have HBB := hide hB
  have RB := hide (show Row W B 30 [.int .i64 P, .slice A1 n1 c1, .slice A2 n2 c2] by rw [← hW, ← hB]; exact (Row.new w2 _ _).alloc _)
  have RL := hide (show Row W (B + 1) 25 [.slice AL nL cL] by rw [← hW, ← hB]; exact (Row.new _ _ _).at_ (by simp))
  have HCd := hide (show CdAt W A2 n2 f.code from (hH.calls hb3).cd (fnE_zero.1 hE).1)
  have hs1 : f.slots.length = n1 := hH.l1
  have hn6 : n1 ≤ 6 := by omega
  have h1 : 1 ≤ n2 := by have h := flow_one hE; have h2 : f.code.length = n2 := hH.l2; omega
  have HOK := hide (show LvOk f.code n1 by rw [← hs1]; exact lv_ok hE (by omega))
  have hlen := HCd.out.len
  have hn2 := HCd.out.few
  have HOL := hide (hO.ann.below hb3)
  have HW := hide hW
  have HB3 := hide (below_call (below_call HB1.out hb2) hb3)
  have HT3 := hide (hT.out.below HB3.out)
  clear hW hb3 hb2 hO hCd hH hB hwg hgl hE HS1 hF HB1
  go_upto_region 4 with (fail)
  rw [HW.out, HBB.out]
  clear HW HBB
  have q0 := RB.out.cell (k := 0) rfl
  have q1 := RB.out.cell (k := 1) rfl
  have q2 := RB.out.cell (k := 2) rfl
  have q3 := RL.out.cell (k := 0) rfl
  have cc := lcheck_any (P := P) (A1 := A1) (n1 := n1) (c1 := c1) (c2 := c2) (cL := cL) W HCd HOK HOL HT3
  cases hok : okL f.code n1 L with
  | false =>
    rw [hok, if_neg (by decide)] at cc
    have cr := hide (fun (V : World) (hb : Below W.heap.size W V) => rcheck17_any (P := P) (A1 := A1) (n1 := n1) (c1 := c1) (c2 := c2) (cL := cL) V (hide (HCd.out.below hb)) HOK (hide (HOL.out.below hb)))
    rw [hok, if_neg (by decide)] at cr
    clear hok
    go_wp2_with fail
    refine cc.mono ?_
    rintro e w4 ⟨rfl, hb4⟩
    have cr4 := cr.out w4 hb4
    have HB4 := hide (below_call HB3.out hb4)
    have RB4 := hide (RB.out.call hb4)
    have RL4 := hide (RL.out.call hb4)
    clear cc cr hb4 q0 q1 q2 q3
    have q0 := RB4.out.cell (k := 0) rfl
    have q1 := RB4.out.cell (k := 1) rfl
    have q2 := RB4.out.cell (k := 2) rfl
    have q3 := RL4.out.cell (k := 0) rfl
    go_wp2_with fail
    refine cr4.mono ?_
    rintro e w5 ⟨rfl, hb5⟩
    have HB5 := hide (below_call HB4.out hb5)
    clear cr4 hb5 q0 q1 q2 q3
    go_wp2_with fail
    go_ret
    exact ⟨rfl, HB5.out⟩
  | true =>
    rw [hok, if_pos rfl] at cc
    have HSO := hide (ok_sound HOK.out hok)
    have HLI := hide (okL_iff.1 hok).1
    have hLl : L.length = n2 := by rw [HLI.out.len, hlen]
    have hnl : nL = n2 := by have := HOL.out.len; omega
    subst hnl
    clear hok
    go_wp2_with fail
    refine cc.mono ?_
    rintro e w4 ⟨rfl, hb4⟩
    have HB4 := hide (below_call HB3.out hb4)
    have RB4 := hide (RB.out.call hb4)
    have RL4 := hide (RL.out.call hb4)
    have OL4 := hide (HOL.out.below hb4)
    have cs := rsolve_any (P := P) (A1 := A1) (n1 := n1) (c1 := c1) (c2 := c2) w4 (hide (HCd.out.below hb4)) HOK
    have hsl : (solL f.code n1).length = nL := by rw [(sol_in HOK.out).len, hlen]
    have HSI := hide (sol_in HOK.out)
    obtain ⟨sol, hsol⟩ : ∃ s, solL f.code n1 = s := ⟨_, rfl⟩
    rw [hsol] at cs hsl HSO HSI
    clear cc hb4 q0 q1 q2 q3 hsol
    have q0 := RB4.out.cell (k := 0) rfl
    have q1 := RB4.out.cell (k := 1) rfl
    have q2 := RB4.out.cell (k := 2) rfl
    go_wp2_with fail
    refine cs.mono ?_
    rintro e w5 ⟨g6, c6, v6, p6, rfl, o6, hb5⟩
    rw [hsl]
    obtain ⟨W6, hW6⟩ : ∃ V, w5.alloc (.cells #[.slice (some ⟨g6, 0, none⟩) nL c6] 25) = V := ⟨_, rfl⟩
    have hb6 : Below w5.heap.size w5 W6 := by rw [← hW6]; exact below1 _ _
    obtain ⟨X, hX⟩ : ∃ X, w5.heap.size = X := ⟨_, rfl⟩
    have R6 := hide (show Row W6 X 25 [.slice (some ⟨g6, 0, none⟩) nL c6] by rw [← hW6, ← hX]; exact Row.new w5 _ _)
    have O6 := hide ((o6.below hb6).ann hsl (by omega))
    have RB6 := hide ((RB4.out.call hb5).call hb6)
    have RL6 := hide ((RL4.out.call hb5).call hb6)
    have OL6 := hide ((OL4.out.below hb5).below hb6)
    have HB6 := hide (below_call (below_call HB4.out hb5) hb6)
    have HW6 := hide hW6
    have HX := hide hX
    clear cs hb5 hb6 hW6 hX o6 q0 q1 q2 RB4 RL4 OL4
    go_upto_region 7 with (fail)
    rw [HX.out, HW6.out]
    clear HX HW6
    go_wp2_with fail
    go_loopw [7] (fun s7 wr => ∃ k : Nat, s7 = .int .i64 (k : Int) ∧ k ≤ nL ∧ Hid (Below W6.heap.size W6 wr)) (fun s7 _ => nL - (intOf s7).toNat)
    case atStart => exact ⟨0, rfl, by omega, hide (Below.refl _ _)⟩
    case round =>
      obtain ⟨k, rfl, hk, hbr⟩ := hrel
      have q2 := (RB6.out.call hbr.out).cell (k := 2) rfl
      by_cases hlt : k < nL
      · have hk0 : (0 : Int) ≤ (k : Int) := by omega
        have hkn : (k : Int) < (nL : Int) := by omega
        obtain ⟨b1, o1, Aa, ca, he1, -, y1, hl1, -⟩ := O6.out.at_ hlt
        injection he1 with he1
        injection he1 with he1 he1'
        subst he1 he1'
        obtain ⟨b2, o2, Ab, cb, rfl, -, y2, hl2, -⟩ := OL6.out.at_ hlt
        have HAS := hide (HSI.out.asc k)
        have HSU := hide (show minusL (sol.getD k []) (L.getD k []) = [] from List.eq_nil_iff_forall_not_mem.2 fun z hz => (mem_minus.1 hz).2 (HSO.out k z (mem_minus.1 hz).1))
        obtain ⟨za, hza⟩ : ∃ z, sol.getD k [] = z := ⟨_, rfl⟩
        obtain ⟨zb, hzb⟩ : ∃ z, L.getD k [] = z := ⟨_, rfl⟩
        rw [hza] at y1 hl1 HAS HSU
        rw [hzb] at y2 hl2 HSU
        rw [Nat.zero_add] at y1
        have cw := hide (fun (V : World) (hb : Below W6.heap.size W6 V) => (s_within ca cb (hide (hl1.below hb)) (hide (hl2.below hb)) HAS (hide (by rw [HSU.out]; rfl)) : Calls Tryd.prog 18 #[.slice Aa za.length ca, .slice Ab zb.length cb] V (fun e w' => e = .returned (.bool true) ∧ Below V.heap.size V w')))
        have q0 := fun (w' : World) (hb : Below W6.heap.size W6 w') => (R6.out.call hb).cell (k := 0) rfl
        have q1 := fun (w' : World) (hb : Below W6.heap.size W6 w') => (RL6.out.call hb).cell (k := 0) rfl
        have q3 := fun (w' : World) (hb : Below W6.heap.size W6 w') => keep_cellB hb y1
        have q4 := fun (w' : World) (hb : Below W6.heap.size W6 w') => keep_cellB hb y2
        have bw0 : Below W6.heap.size W6 wr.drew := below_call hbr.out (Below.refl _ _).drew
        clear hza hzb hl1 hl2 y1 y2
        go_upto_region 10 with (fail)
        clear q2
        go_region_held3 (fun V => Below W6.heap.size W6 V) (first | exact bw0 | exact bb)
          (first
            | (go_at_call 18; with_reducible refine Calls.mono (cw.out _ bw0) ?_; rintro e w9 ⟨rfl, hb9⟩; have bb := below_call bw0 hb9; clear hb9))
        all_goals
          have BZ := hide bb
          clear bb q0 q1 q3 q4 bw0 cw
          go_wp2_with fail
          go_roundw
          case rel => exact ⟨k + 1, by go_num, by omega, BZ⟩
          case measure => simp [intOf]; omega
      · obtain rfl : k = nL := by omega
        have HF := hide (below_call HB6.out hbr.out)
        go_wp2_with fail
        go_ret
        exact ⟨rfl, HF.out⟩
end Go.Proofs.YtidlnecgfgnllaaDoor
end

section
/-
  LivecheckIsSound: for every input the law returns true, and each argument reads behind the call as it did before, where the listed table lies as its initialiser lays it; the card ties that table to the program's text. No other condition: every input that the row speaks of.
-/
namespace Go.Proofs.YtidlnecgfgnllaaDoor
open Go.ChangeShapes Go.WideShapes Go.ChangeAt Go.RowKit

namespace rowLivecheckIsSound
set_option maxRecDepth 100000 in
theorem contract (H : Type) (enc : TypeId × Value → H) (W : World) (base : Nat) (args : Array Value) (ds gs : List (DataW H)) (before : List MemPlace)
    (hval : ∀ (j : Nat) t v, Tryd.f5.params[j]? = some t → args[j]? = some v → Value.okWide Tryd.prog W .any base t v)
    (hW : DataW.Whole enc Tryd.prog Tryd.f5.params.toList Rows.livecheckIsSoundSpec.vars false W args.toList ds gs before) (hL : laidMetH Tryd.prog laidOne W) :
    Calls Tryd.prog 5 args W fun e W' => ∃ v, e = .returned v ∧ Rows.livecheckIsSoundSpec.post enc Tryd.prog Tryd.f5 false true false false W args v W' := by
  have hW' := hW
  obtain ⟨p, q, hA, hV, rfl, hfz, hnd⟩ := hW
  have hA : DataW.TrodAll enc Tryd.prog W 0 (fun _ => true) true Tryd.f5.params.toList args.toList ds p := hA
  rw [Tryd.params5] at hA hval
  obtain ⟨v0, vs0, d0, ds0, p0, q0, hargs, rfl, rfl, h0, r0⟩ := trodAll_cons hA
  obtain ⟨rfl, rfl, rfl⟩ := trodAll_nil r0
  obtain rfl : args = #[v0] := by cases args; simp_all
  obtain ⟨A0, n0, c0, zs0, rfl, hA0, hn0, hm0, hs0, hz0, hc0⟩ := open_u8s Tryd.underlying22 Tryd.underlying5 cells_u8 (hval 0 22 v0 rfl rfl) h0
  refine (lslaw_walk A0 n0 c0 zs0 W (hide hA0) (hide hn0) hc0 hm0 (hide hs0) (hide hz0) (hide (tab_of_laid hL))).mono fun e W' ⟨he, hB⟩ => ⟨_, he, ?_⟩
  exact law_post laid_out (by decide +kernel) rfl rfl Tryd.underlying4 rfl hW' hB

set_option maxRecDepth 100000 in
theorem lifted (os : Os) (started : os.Started) (H : Type) (enc : TypeId × Value → H) :
    ReturnsInHanded {} Tryd.checked os 5 .any (fun w args => (Rows.livecheckIsSoundSpec.pre enc Tryd.prog Tryd.f5 [] false w args ∧ laidMetH Tryd.prog laidOne w) ∧ sizedMet enc Tryd.prog Tryd.f5 (OpenSpec.ofChange Rows.livecheckIsSoundSpec) false w args)
      (Rows.livecheckIsSoundSpec.post enc Tryd.prog Tryd.f5 false true false false) := by
  refine returnsInHanded_of_change_and (C := Tryd.checked) (X := fun w _ => laidMetH Tryd.prog laidOne w) (fun _ _ _ hh h => h.of_heap hh) own_knob started (by kernel_rfl) Tryd.func5
    (ChangeSpec.witness_shaped (enc := enc) (C := Tryd.checked) (os := os) (X := fun w _ => laidMetH Tryd.prog laidOne w) false (World.doorLaid Tryd.prog 400 os) #[.slice none 0 0] 8 rfl (World.shaped_of_RefB (by kernel_rfl) (by kernel_rfl)) (by kernel_rfl) (by kernel_rfl) (by kernel_rfl) (door_met os _)) ?_
  intro W base args ds gs before hval hW _ _ hL _
  exact contract H enc W base args ds gs before hval hW hL

theorem row : Rows.LivecheckIsSoundSaid :=
  OpenClaim.holds_of_wide 5 Tryd.f5 rfl rfl rfl rfl rfl rfl rfl ⟨rfl, rfl, rfl, rfl, rfl⟩ rfl rfl rfl rfl rfl (by kernel_rfl) Tryd.func5 (by kernel_rfl)
    (of_decide_eq_true (by kernel_rfl)) (by unfold Func.isWrapper; first | (rw [if_pos (by decide +kernel)]; kernel_rfl) | (rw [if_neg (by decide +kernel)]; exact ⟨rfl, rfl⟩))
    (fun os started H enc _ => lifted os started H enc)

theorem proved : Rows.LivecheckIsSoundCardSaid :=
  Claim7.holds_tied_plain_at .later [] [.data] true (true, "dd5303d2fabf194ae77c69ad4ecf4317e4e9b93fddf7bcec66bf13a547e9b8b2") false
    row (fun _ h => by cases h) (by kernel_rfl) (fun _ h => by cases h) livecheckIsSound_row_tie rfl ⟨rfl, rfl⟩ (by kernel_rfl) rfl
    (fun f fn hf hfn => by
      obtain rfl : f = 5 := Option.some.inj ((show Tryd.prog.funcNamed "spillframe/spillframelaw17.LivecheckIsSound" = some 5 by kernel_rfl).symm.trans hf) |>.symm
      obtain rfl : fn = Tryd.f5 := (Option.some.inj (Tryd.func5.symm.trans hfn)).symm
      exact ⟨by kernel_rfl, fun j t ht => by
        rw [Tryd.params5] at ht
        have hm : t ∈ [22] := by simpa using Array.mem_of_getElem? ht
        have hall : ([22].all fun u => !Tryd.prog.wantsStandIn u) = true := by kernel_rfl
        exact (show Tryd.prog.wantsStandIn t = false by simpa using List.all_eq_true.1 hall t hm)⟩)
    (by kernel_rfl)
end rowLivecheckIsSound
end Go.Proofs.YtidlnecgfgnllaaDoor
end
