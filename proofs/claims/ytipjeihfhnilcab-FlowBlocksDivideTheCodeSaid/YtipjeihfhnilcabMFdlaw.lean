import Derived.Test.YtipjeihfhnilcabMFblaw
import Derived.Test.YtipjeihfhnilcabMFrn
import Derived.Test.YtipjeihfhnilcabMLaw
import Derived.Deep.DeepCutAuto
set_option linter.unusedVariables false
set_option linter.unusedSimpArgs false
section
/-
  FlowBlocksDivideTheCode's law, walked: it returns true. Conditions: those of the types.
-/
namespace Go.Proofs.Ytipjeihfhnilcab
open Go.RowKit

theorem leads_zero (l : List Ins) {n : Nat} (h : 1 ≤ n) : (leadsL (ldr l) n)[0]? = some 0 := by
  have hm : 0 ∈ leadsL (ldr l) n := leadsL_mem.2 ⟨by omega, ldr_zero l⟩
  obtain ⟨q, hq, he⟩ := List.mem_iff_getElem.1 hm
  have hp := leadsL_pw (ldr l) n
  rw [List.pairwise_iff_getElem] at hp
  rcases Nat.eq_zero_or_pos q with h0 | h0
  · subst h0; rw [List.getElem?_eq_getElem hq, he]
  · have := hp 0 q (by omega) hq h0; omega
theorem LstOne {w w' : World} {A : Option Addr} {c : Nat} {x : Int} (h0 : 0 ≤ x) (h1 : x ≤ 9223372036854775807) (h : w'.ownsRow w.heap.size 3 1 (.slice A 1 c) 1 (cellsI [x])) : Lst w' A 1 [x] := ⟨rfl, by omega, Sees.ownN h, fun z hz => by simp at hz; omega⟩
theorem LitOne (V : World) {x : Int} (h0 : 0 ≤ x) (h1 : x ≤ 9223372036854775807) : Lst (V.alloc (.cells #[.int .i64 x] 3)) (some ⟨V.heap.size, 0, none⟩) 1 [x] :=
  LstOne (c := 1) h0 h1 (IntRel.lit (w := V) (wr := V) (Below.refl _ _) [x] 1 rfl (by omega) #[.int .i64 x] rfl rfl).1
/-- Where leader i begins, or the end. -/
def AtI (LL : List Nat) (n i a : Nat) : Prop := LL[i]? = some a ∨ (LL[i]? = none ∧ a = n)
set_option maxRecDepth 100000 in
set_option maxHeartbeats 1000000 in
theorem divlaw_walk (A0 : Option Addr) (n0 c0 : Nat) (zs : List Int) (w : World)
    (hA : Hid (A0 = none → c0 = 0)) (hn : Hid (zs.length = n0)) (hnc : n0 ≤ c0) (hm : n0 ≤ 9223372036854775807) (hs : Hid (Sees w w.heap.size A0 (cellsU8 zs))) (hz : Hid (∀ z ∈ zs, 0 ≤ z ∧ z ≤ 255)) :
    Calls Try.prog 5 #[.slice A0 n0 c0] w fun e w' => e = .returned (.bool true) ∧ Below w.heap.size w w' := by
  go_enter Try.func5, Try.ntmps5
  go_wp2_with fail
  refine (awake13_any w).mono ?_
  rintro e w1 ⟨rfl, hb1⟩
  have HB1 := hide hb1
  have HS1 := hide ((hs.out.below hb1).more hb1.size)
  clear hb1
  go_wp2_with fail
  refine (function13_any A0 n0 c0 zs w1 hA hn hnc hm HS1 hz).mono ?_
  rintro e w2 ⟨P, A1, n1, c1, A2, n2, c2, l, gk, rfl, hC, hok, hn2, hb2⟩
  obtain ⟨W, hW⟩ : ∃ V, w2.alloc (.cells #[.int .i64 P, .slice A1 n1 c1, .slice A2 n2 c2] 27) = V := ⟨_, rfl⟩
  have HW := hide hW
  have hb3 : Below w2.heap.size w2 W := by rw [← hW]; exact below1 _ _
  obtain ⟨B, hB⟩ : ∃ B, w2.heap.size = B := ⟨_, rfl⟩
  have HBB := hide hB
  have RB := hide (show Row W B 27 [.int .i64 P, .slice A1 n1 c1, .slice A2 n2 c2] by rw [← hW, ← hB]; exact Row.new w2 _ _)
  have HC := hide (hC.below hb3)
  have HBW := hide (HB1.out.trans ((hb2.trans (hb3.mono hb2.size)).mono HB1.out.size))
  have hn3 := hC.few
  have hlen := hC.len
  have OK := hide hok
  have CB := hide (fun (k f t : Nat) (V : World) (hb : Below W.heap.size W V) (hk : k < n2) (h : IsBlk (ldr l) n2 k f t) => (block_any (P := P) (A1 := A1) (n1 := n1) (c1 := c1) (c2 := c2) k V (hide (HC.out.below hb)) hk).mono fun e w' q => q.one h)
  have CN := hide (fun (k : Nat) (V : World) (hb : Below W.heap.size W V) (hs : suc l k = [k + 1]) => (show Calls Try.prog 15 #[fv P A1 n1 c1 A2 n2 c2, .int .i64 (k : Int)] V (OutPost [(k : Int) + 1] V) by
    have h := fnext_any (P := P) (A1 := A1) (n1 := n1) (c1 := c1) (c2 := c2) (k : Int) V (hide (HC.out.below hb)) hok
    rw [sucZ_nat, hs] at h
    simpa [toI] using h))
  have LA := hide (fun (V : World) (hb : Below W.heap.size W V) => leaders_any (P := P) (A1 := A1) (n1 := n1) (c1 := c1) (c2 := c2) V (hide (HC.out.below hb)))
  have HL := hide hlen
  have HZ := hide (leads_zero l hn2)
  clear hC hok hb2 hb3 hW hB HS1 HB1 hlen
  go_upto_region 4 with (fail)
  rw [HW.out, HBB.out]
  clear HW HBB
  have q0 := RB.out.cell (k := 0) rfl
  have q1 := RB.out.cell (k := 1) rfl
  have q2 := RB.out.cell (k := 2) rfl
  go_wp2_with fail
  refine (LA.out W (Below.refl _ _)).mono ?_
  intro e w5 h5
  unfold OutPost at h5
  obtain ⟨A5, c5, rfl, ho5, hb5⟩ := h5
  have HL5 := hide (LstJ hn3 ho5)
  have HB5 := hide hb5
  have hBLK := fun (i f : Nat) (h : (leadsL (ldr l) n2)[i]? = some f) => leads_blk h
  have hLn := leadsL_len (ldr l) n2
  obtain ⟨LL, hLL⟩ : ∃ LL, leadsL (ldr l) n2 = LL := ⟨_, rfl⟩
  rw [toI_len]
  rw [toI_len] at HL5
  rw [hLL] at HL5 HZ hBLK hLn ⊢
  have BLK := hide hBLK
  clear hLL hBLK ho5 hb5 LA q0 q1 q2
  go_wp2_with fail
  go_loopw [6, 7] (fun s6 s7 wr => ∃ (i a : Nat), s6 = .int .i64 (a : Int) ∧ s7 = .int .i64 (i : Int) ∧ i ≤ LL.length ∧ a ≤ n2 ∧ Hid (AtI LL n2 i a) ∧ Hid (Below w5.heap.size w5 wr)) (fun _ s7 _ => LL.length - (intOf s7).toNat)
  case atStart => exact ⟨0, 0, rfl, rfl, by omega, by omega, hide (.inl HZ.out), hide (Below.refl _ _)⟩
  case round =>
    obtain ⟨i, a, rfl, rfl, hi, ha, hAt, hbr⟩ := hrel
    have HBr := hide (below_call HB5.out hbr.out)
    have RF := hide (RB.out.call HBr.out)
    by_cases hlt : i < LL.length
    · have hx := List.getElem?_eq_getElem hlt
      obtain ⟨f, hf⟩ : ∃ f, LL[i] = f := ⟨_, rfl⟩
      rw [hf] at hx
      obtain rfl : a = f := by
        rcases hAt.out with h | ⟨h, -⟩
        · rw [hx] at h; injection h with h; exact h.symm
        · rw [hx] at h; cases h
      obtain ⟨t, hblk, hnx⟩ := BLK.out i a hx
      have HBK := hide hblk
      have HNX := hide (show AtI LL n2 (i + 1) t from hnx)
      have hat : a < t := hblk.kt
      have htn : t ≤ n2 := hblk.tn
      obtain ⟨bL, oL, rfl, -, y0⟩ := int_at (HL5.out.below hbr.out).see (k := i) (by rw [toI_len]; exact hlt)
      have x0 : wr.cell? ⟨bL, oL + i, none⟩ = some (.int .i64 (a : Int)) := by
        rw [y0]; congr 2; simp only [toI, List.getElem_map]; rw [hf]
      obtain ⟨s, hs⟩ : ∃ s : Int, (t : Int) - (a : Int) = s := ⟨_, rfl⟩
      have HSS := hide hs
      have hw1 : IntKind.i64.wrap ((a : Int) + s) = (t : Int) := by rw [IntKind.wrap_i64]; omega
      have hw2 : IntKind.i64.wrap ((t : Int) - 1) = (t : Int) - 1 := by rw [IntKind.wrap_i64]; omega
      have hs1 : 1 ≤ s := by omega
      have hs1' : ¬ s < 1 := by omega
      have htn' : ¬ (n2 : Int) < (t : Int) := by omega
      have hi0 : (0 : Int) ≤ (i : Int) := by omega
      have hin : (i : Int) < (LL.length : Int) := by omega
      have cB : ∀ V : World, Below wr.heap.size wr V → Calls Try.prog 10 #[.agg #[.int .i64 P, .slice A1 n1 c1, .slice A2 n2 c2], .int .i64 (a : Int)] V (fun e w' => e = .returned (pv (a : Int) s) ∧ Below V.heap.size V w') := fun V hb => by
        rw [← HSS.out]; exact CB.out a a t V (below_call HBr.out hb) (by omega) HBK.out
      have CR := hide cB
      clear hs hx hf hnx hblk cB y0
      have f0 := RF.out.cell (k := 0) rfl
      have f1 := RF.out.cell (k := 1) rfl
      have f2 := RF.out.cell (k := 2) rfl
      go_upto_region 9 with (fail)
      go_cut [8] from 25 to 90 (fun v8 wx => ∃ gi, v8 = .pointer (some ⟨gi, 0, none⟩) ∧ Hid (Row wx gi 35 [.int .i64 (a : Int), .int .i64 s]) ∧ Hid (Below wr.heap.size wr wx))
      case first =>
        have w0 := keep_cellB (below1 wr (.cells #[.int .i64 0, .int .i64 0] 35)) x0
        have k0 := (RF.out.alloc (.cells #[.int .i64 0, .int .i64 0] 35)).cell (k := 0) rfl
        have k1 := (RF.out.alloc (.cells #[.int .i64 0, .int .i64 0] 35)).cell (k := 1) rfl
        have k2 := (RF.out.alloc (.cells #[.int .i64 0, .int .i64 0] 35)).cell (k := 2) rfl
        go_region_law
          (first
            | (go_simp; go_at_call 10; with_reducible refine Calls.mono (CR.out wr.drew (Below.refl wr.heap.size wr).drew) ?_; rintro e w3 ⟨rfl, hb3⟩; have hA3 : Below wr.heap.size wr w3 := below_call (Below.refl wr.heap.size wr).drew hb3)
            | (go_simp; go_at_call 10; have h1 := (below1 wr (.cells #[.int .i64 0, .int .i64 0] 35)).drew; with_reducible refine Calls.mono (CR.out _ h1) ?_; rintro e w3 ⟨rfl, hb3⟩; have hbz := below_call h1 hb3; have hR : Row w3 wr.heap.size 35 [.int .i64 0, .int .i64 0] := Row.call (w := (wr.alloc (.cells #[.int .i64 0, .int .i64 0] 35)).drew) (Row.new wr _ _).drew hb3; have v0 := hR.cell (k := 0) rfl; have v1 := hR.cell (k := 1) rfl; have u0 := hR.free 0; have u1 := hR.free 1))
        all_goals
          go_wp2_with fail
          go_meet
          first
            | exact ⟨_, rfl, hide (Row.new w3 _ [.int .i64 (a : Int), .int .i64 s]), hide (hA3.alloc hA3.size _)⟩
            | exact ⟨_, rfl, hide ((hR.set_ 0 (.int .i64 (a : Int))).set_ 1 (.int .i64 s)), hide ((hbz.setCell (p := ⟨wr.heap.size, 0, none⟩) (by simp) _).setCell (p := ⟨wr.heap.size, 1, none⟩) (by simp) _)⟩
      case rest =>
        obtain ⟨gi, rfl, hrow, hb8⟩ := hcut
        have HB8 := hide (below_call HBr.out hb8.out)
        have HR := hide hrow.out
        have RC := hide (RF.out.call hb8.out)
        have y0 := keep_cellB hb8.out x0
        have HBQ := hide (below_call hbr.out hb8.out)
        clear x0 f0 f1 f2 CR hrow hb8 RF HBr hbr
        have r0 := HR.out.cell (k := 0) rfl
        have r1 := HR.out.cell (k := 1) rfl
        have f2 := RC.out.cell (k := 2) rfl
        go_wp2_with fail
        go_quiet (fail)
        clear y0 f2
        rw [show decide (s < 1) = false from decide_eq_false (by omega), show decide (n2 < t) = false from decide_eq_false (by omega), show (false || false) = false from rfl]
        go_wp2_with fail
        go_loopw [9] (fun s9 wi => ∃ k : Nat, a ≤ k ∧ k + 1 ≤ t ∧ s9 = .int .i64 (k : Int) ∧ Hid (Below wc.heap.size wc wi)) (fun s9 _ => t - (intOf s9).toNat)
        case atStart => exact ⟨a, Nat.le_refl _, hat, rfl, hide (below_draws (Below.refl _ _) _)⟩
        case round =>
          obtain ⟨k, hk, hkt, rfl, hbk⟩ := hrel
          have RK := hide (RC.out.call hbk.out)
          have RI := hide (HR.out.call hbk.out)
          have r0 := RI.out.cell (k := 0) rfl
          have r1 := RI.out.cell (k := 1) rfl
          by_cases hlk : k + 1 < t
          · have hwk : IntKind.i64.wrap ((k : Int) + 1) = (k : Int) + 1 := by rw [IntKind.wrap_i64]; omega
            have hkn : k < n2 := by omega
            have hlt2 : (k : Int) < (t : Int) - 1 := by omega
            obtain ⟨x, hx⟩ : ∃ x, l[k]? = some x := ⟨_, List.getElem?_eq_getElem (show k < l.length by have := HL.out; omega)⟩
            have hsu : suc l k = [k + 1] := suc_in (HBK.out.no (k + 1) (by omega) (by omega)) hx
            have NX := hide (fun (V : World) (hb : Below wr.heap.size wr V) => (show Calls Try.prog 15 #[.agg #[.int .i64 P, .slice A1 n1 c1, .slice A2 n2 c2], .int .i64 (k : Int)] V (fun e w' => ∃ A c, e = .returned (.slice A 1 c) ∧ Lst w' A 1 [(k : Int) + 1] ∧ Below V.heap.size V w') from (CN.out k V (below_call (below_call HB8.out hbk.out) hb) hsu).mono fun e w' h => by
              unfold OutPost at h
              obtain ⟨A, c, he, ho, hB⟩ := h
              exact ⟨A, c, he, LstOne (by omega) (by omega) ho, hB⟩))
            have BK := hide (fun (V : World) (hb : Below wr.heap.size wr V) => (show Calls Try.prog 10 #[.agg #[.int .i64 P, .slice A1 n1 c1, .slice A2 n2 c2], .int .i64 (k : Int)] V (fun e w' => e = .returned (.agg #[.int .i64 (a : Int), .int .i64 s]) ∧ Below V.heap.size V w') from by
              have h := CB.out k a t V (below_call (below_call HB8.out hbk.out) hb) hkn (HBK.out.same hk (by omega))
              rw [HSS.out] at h; exact h))
            have CS := hide (fun (A : Option Addr) (c : Nat) (A' : Option Addr) (c' : Nat) (V : World) (h : Lst V A 1 [(k : Int) + 1]) (h' : Lst V A' 1 [(k : Int) + 1]) => (show Calls Try.prog 12 #[.slice A 1 c, .slice A' 1 c'] V (BoolPost true V) by have h3 := lsame_any A 1 c _ A' 1 c' _ V (hide h) (hide h'); rwa [show decide ([(k : Int) + 1] = [(k : Int) + 1]) = true from decide_eq_true rfl] at h3))
            have LIT := hide (fun (V : World) => LitOne V (x := (k : Int) + 1) (by omega) (by omega))
            have hne : ∀ w, (binOp .neq 35 (.agg #[.int .i64 (a : Int), .int .i64 s]) (.agg #[.int .i64 (a : Int), .int .i64 s])).run Try.prog w = .ok (.bool false) w := fun w => by
              have h := run_ne_interval (a : Int) s (a : Int) s w
              simpa using h
            clear hx hsu
            go_upto_region 15 with (fail)
            have r0 := fun (w' : World) (hb : Below wr.heap.size wr w') => (RI.out.call hb).cell (k := 0) rfl
            have r1 := fun (w' : World) (hb : Below wr.heap.size wr w') => (RI.out.call hb).cell (k := 1) rfl
            have q0 := fun (w' : World) (hb : Below wr.heap.size wr w') => (RK.out.call hb).cell (k := 0) rfl
            have q1 := fun (w' : World) (hb : Below wr.heap.size wr w') => (RK.out.call hb).cell (k := 1) rfl
            have q2 := fun (w' : World) (hb : Below wr.heap.size wr w') => (RK.out.call hb).cell (k := 2) rfl
            go_region_held3 (fun w' => Below wr.heap.size wr w') (first | exact bb | exact below_draws (Below.refl _ _) 1 | exact below_draws bb _ | exact (below1 wr _).drew | exact bb.alloc bb.size _)
              (first
                | (go_at_call 15; with_reducible refine Calls.mono (NX.out wr.drew (Below.refl _ _).drew) ?_; rintro e w5 ⟨Aa, ca, rfl, hoa, hb5⟩; have HLa := hide hoa; have bb := below_call (show Below wr.heap.size wr wr.drew from (Below.refl _ _).drew) hb5; clear hoa)
                | (go_at_call 15; with_reducible refine Calls.mono (NX.out (wr.alloc (.cells #[.int .i64 ((k : Int) + 1)] 3)).drew (below1 wr _).drew) ?_; rintro e w5 ⟨Aa, ca, rfl, hoa, hb5⟩; have HLa := hide hoa; have HLl := hide ((LIT.out wr).below (below_call (show Below (wr.alloc (.cells #[.int .i64 ((k : Int) + 1)] 3)).heap.size (wr.alloc (.cells #[.int .i64 ((k : Int) + 1)] 3)) _ from (Below.refl _ _).drew) hb5)); have bb := below_call (below1 wr (.cells #[.int .i64 ((k : Int) + 1)] 3)).drew hb5; clear hoa)
                | (go_at_call 12; with_reducible refine Calls.mono (CS.out _ _ _ _ _ HLa.out HLl.out) ?_; intro e w7 h7; unfold BoolPost at h7; obtain ⟨rfl, q, rfl⟩ := h7; have bb := below_draws bb q)
                | (go_at_call 12; with_reducible refine Calls.mono (CS.out _ _ _ _ (w5.alloc (.cells #[.int .i64 ((k : Int) + 1)] 3)) (HLa.out.below (below1 w5 _)) (LIT.out w5)) ?_; intro e w7 h7; unfold BoolPost at h7; obtain ⟨rfl, q, rfl⟩ := h7; have bb := below_draws (bb.alloc bb.size (.cells #[.int .i64 ((k : Int) + 1)] 3)) q)
                | (go_at_call 10; with_reducible refine Calls.mono (BK.out _ bb) ?_; rintro e w8 ⟨rfl, hb8⟩; have bb := below_call bb hb8))
            all_goals
              have HF := hide (below_call hbk.out bb)
              clear bb r0 r1 q0 q1 q2 NX BK CS LIT
              go_wp2_with fail
              go_roundw
              case rel => exact ⟨k + 1, by omega, by omega, by go_num, HF⟩
              case measure => simp [intOf]; omega
          · have hnlt : ¬ (k : Int) < (t : Int) - 1 := by omega
            have HF := hide (below_call HBQ.out hbk.out)
            go_wp2_with fail
            go_roundw
            case rel => exact ⟨i + 1, t, rfl, by go_num, by omega, by omega, HNX, HF⟩
            case measure => simp [intOf]; omega
    · obtain rfl : i = LL.length := by omega
      obtain rfl : a = n2 := by
        rcases hAt.out with h | ⟨-, h⟩
        · rw [List.getElem?_eq_none (Nat.le_refl _)] at h; cases h
        · exact h
      have f2 := RF.out.cell (k := 2) rfl
      have HF := hide (HBW.out.trans (HBr.out.mono HBW.out.size))
      go_wp2_with fail
      go_ret
      exact ⟨rfl, HF.out⟩
end Go.Proofs.Ytipjeihfhnilcab
end

section
/-
  FlowBlocksDivideTheCode: for every input the law returns true, and each argument reads behind the call as it did before. No condition: every input that the row speaks of.
-/
namespace Go.Proofs.Ytipjeihfhnilcab
open Go.ChangeShapes Go.WideShapes Go.ChangeAt Go.RowKit

namespace rowFlowBlocksDivideTheCode
theorem own_knob : ownKnob Try.prog.godebug = none := by kernel_rfl
theorem laid_out : laidOutB Try.prog = true := by kernel_rfl
theorem cells_u8 : Try.prog.cellsOf 5 = 1 := by kernel_rfl
set_option maxRecDepth 100000 in
theorem contract (H : Type) (enc : TypeId × Value → H) (W : World) (base : Nat) (args : Array Value) (ds gs : List (DataW H)) (before : List MemPlace)
    (hval : ∀ (j : Nat) t v, Try.f5.params[j]? = some t → args[j]? = some v → Value.okWide Try.prog W .any base t v)
    (hW : DataW.Whole enc Try.prog Try.f5.params.toList Rows.flowBlocksDivideTheCodeSpec.vars false W args.toList ds gs before) :
    Calls Try.prog 5 args W fun e W' => ∃ v, e = .returned v ∧ Rows.flowBlocksDivideTheCodeSpec.post enc Try.prog Try.f5 false true false false W args v W' := by
  have hW' := hW
  obtain ⟨p, q, hA, hV, rfl, hfz, hnd⟩ := hW
  have hA : DataW.TrodAll enc Try.prog W 0 (fun _ => true) true Try.f5.params.toList args.toList ds p := hA
  rw [Try.params5] at hA hval
  obtain ⟨v0, vs0, d0, ds0, p0, q0, hargs, rfl, rfl, h0, r0⟩ := trodAll_cons hA
  obtain ⟨rfl, rfl, rfl⟩ := trodAll_nil r0
  obtain rfl : args = #[v0] := by cases args; simp_all
  obtain ⟨A0, n0, c0, zs0, rfl, hA0, hn0, hm0, hs0, hz0, hc0⟩ := open_u8s Try.underlying22 Try.underlying5 cells_u8 (hval 0 22 v0 rfl rfl) h0
  refine (divlaw_walk A0 n0 c0 zs0 W (hide hA0) (hide hn0) hc0 hm0 (hide hs0) (hide hz0)).mono fun e W' ⟨he, hB⟩ => ⟨_, he, ?_⟩
  exact law_post laid_out (by decide +kernel) rfl rfl Try.underlying4 rfl hW' hB

set_option maxRecDepth 100000 in
theorem lifted (os : Os) (started : os.Started) (H : Type) (enc : TypeId × Value → H) :
    ReturnsInHanded {} Try.checked os 5 .any (Rows.flowBlocksDivideTheCodeSpec.pre6 enc Try.prog Try.f5 Rows.flowBlocksDivideTheCodeRow.domain false) (Rows.flowBlocksDivideTheCodeSpec.post enc Try.prog Try.f5 false true false false) := by
  refine returnsInHanded_of_change (C := Try.checked) own_knob started (by kernel_rfl) Try.func5
    (ChangeSpec.witness6 (enc := enc) (C := Try.checked) false ⟨#[], #[.slice none 0 0], []⟩ 8 (by kernel_rfl) (by kernel_rfl) (by kernel_rfl) (by kernel_rfl)) ?_
  intro W base args ds gs before hval hW _ _
  exact contract H enc W base args ds gs before hval hW

theorem proved : Rows.FlowBlocksDivideTheCodeSaid :=
  OpenClaim.holds_of_wide 5 Try.f5 rfl rfl rfl rfl rfl rfl rfl ⟨rfl, rfl, rfl, rfl, rfl⟩ rfl rfl rfl rfl rfl (by kernel_rfl) Try.func5 (by kernel_rfl)
    (of_decide_eq_true (by kernel_rfl)) (by unfold Func.isWrapper; first | (rw [if_pos (by decide +kernel)]; kernel_rfl) | (rw [if_neg (by decide +kernel)]; exact ⟨rfl, rfl⟩))
    (fun os started H enc _ => lifted os started H enc)
end rowFlowBlocksDivideTheCode
end Go.Proofs.Ytipjeihfhnilcab
end
