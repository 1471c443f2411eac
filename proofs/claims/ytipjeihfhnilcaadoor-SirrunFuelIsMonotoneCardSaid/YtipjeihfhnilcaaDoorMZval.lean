import Derived.Test.YtipjeihfhnilcaaDoorMVbits
import Derived.Test.YtipjeihfhnilcaaDoorMZawk
import Derived.Test.YtipjeihfhnilcaaDoorMZstr
import Derived.Test.YtipjeihfhnilcaaDoorMBsop
import Derived.Test.YtipjeihfhnilcaaDoorTie
import Derived.Test.YtipjeihfhnilcaaDoorCards
import Derived.SevenTiedAt
set_option linter.unusedVariables false
set_option linter.unusedSimpArgs false
section
/-
  Every value of a run's trace, and its result, are numbers of 128 bits. No function of the program is named here.
-/
namespace Go.Proofs.YtipjeihfhnilcaaDoor
open Go.RowKit

/-- The output and the result are numbers of 128 bits. -/
structure Vals (s : Mch) : Prop where
  t : ∀ v ∈ s.trace, v < two128
  r : s.res < two128
theorem Vals.of {s t : Mch} (h : Vals s) (h1 : t.trace = s.trace) (h2 : t.res = s.res) : Vals t := ⟨by rw [h1]; exact h.t, by rw [h2]; exact h.r⟩
theorem read_res (s : Mch) (o : Option Nat) : (s.read o).trace = s.trace ∧ (s.read o).res = s.res := by unfold Mch.read; split <;> exact ⟨rfl, rfl⟩
theorem step_vals {F : Pg} {s : Mch} (h : Vld F s) (hv : Vals s) : Vals (s.stepM F) := by
  have hreg : ∀ i, s.fetched.reg i < two128 := fun i => h.reg i
  have hf : Vals s.fetched := hv.of rfl rfl
  unfold Mch.stepM Mch.exec
  generalize s.next F = x
  generalize s.fetched = u at hreg hf
  split
  · unfold Mch.accessM
    split
    · obtain ⟨r1, r2⟩ := read_res u (u.top.sl x.b)
      exact hf.of r1 r2
    · split
      · exact hf.of rfl rfl
      · split
        · obtain ⟨r1, r2⟩ := read_res u (u.top.sl x.b)
          exact hf.of r1 r2
        · split
          · exact hf.of rfl rfl
          · obtain ⟨r1, r2⟩ := read_res u (u.caller.ar x.b)
            exact hf.of r1 r2
  · split
    · unfold Mch.transferM
      split
      · exact hf.of rfl rfl
      · split
        · split
          · exact hf.of rfl rfl
          · exact hf.of rfl rfl
        · split
          · exact hf.of rfl rfl
          · split
            · unfold Mch.leave
              dsimp only
              split
              · exact ⟨hf.t, hreg 0⟩
              · exact hf.of rfl rfl
            · exact hf.of rfl rfl
    · unfold Mch.computeM
      split
      · exact hf.of rfl rfl
      · split
        · exact hf.of rfl rfl
        · split
          · exact hf.of rfl rfl
          · split
            · exact hf.of rfl rfl
            · split
              · exact hf.of rfl rfl
              · split
                · refine ⟨fun v hm => ?_, hf.r⟩
                  rcases List.mem_append.1 (show v ∈ u.trace ++ [u.reg x.a] from hm) with hm | hm
                  · exact hf.t v hm
                  · rw [List.mem_singleton.1 hm]; exact hreg _
                · unfold Mch.applyM
                  split
                  · exact hf.of rfl rfl
                  · exact hf.of rfl rfl
theorem iter_vals {F : Pg} (hF : pgE F = 0) (him : ImmF F) : ∀ (k : Nat) (s : Mch), (s.ended = true ∨ Vld F s) → Vals s → Vals (iterM F k s)
  | 0, _, _, hv => hv
  | k + 1, s, h, hv => by
    rw [iterM]
    by_cases he : s.ended = true
    · rw [if_pos he]; exact hv
    · rw [if_neg he]
      rcases h with h | h
      · exact absurd h he
      · exact iter_vals hF him k _ (vld_step hF him h) (step_vals h hv)
theorem run_vals {F : Pg} (hF : pgE F = 0) (him : ImmF F) {inp : List Nat} (hi : ∀ v ∈ inp, v < 18446744073709551616) (n : Nat) : Vals (runM F inp n) := by
  have h := iter_vals hF him n (startM inp) (.inr (vld_start hF hi)) ⟨(fun v hm => by cases hm), show (0 : Nat) < two128 by decide⟩
  unfold runM
  refine h.of (fuelled_same _).2 ?_
  unfold Mch.fuelled
  split <;> rfl
end Go.Proofs.YtipjeihfhnilcaaDoor
end

section
/-
  SirrunFuelIsMonotone's law, walked: with more fuel the trace grows, a run that ended by itself stays. Conditions: those of the types; the table of shapes lies as it is laid.
-/
namespace Go.Proofs.YtipjeihfhnilcaaDoor
open Go.RowKit

/-- What more fuel leaves, as the law asks it. -/
structure MoreF (a b : Mch) (N : Nat) : Prop where
  tr : a.trace.length ≤ b.trace.length
  st : a.steps ≤ b.steps
  mo : a.steps ≤ N
  ne : a.kind ≠ 4 → b = a
  eq : a.kind = 4 → a.steps = N
  pre : b.trace.take a.trace.length = a.trace
theorem moreF (F : Pg) (inp : List Nat) (N M : Nat) : MoreF (runM F inp N) (runM F inp (N + M)) N := by
  obtain ⟨l, hl⟩ := more_trace F inp N M
  exact ⟨by rw [hl, List.length_append]; omega, more_steps F inp N M, run_most F inp N, more_fuel F inp N M, fun h => (run_fuel h).1, by rw [hl, List.take_left]⟩

set_option maxRecDepth 100000 in
set_option maxHeartbeats 8000000 in
theorem fuelaw_walk (A0 : Option Addr) (n0 c0 : Nat) (zs : List Int) (mo : Int) (w : World)
    (hA : Hid (A0 = none → c0 = 0)) (hn : Hid (zs.length = n0)) (hnc : n0 ≤ c0) (hm : n0 ≤ 9223372036854775807) (hs : Hid (Sees w w.heap.size A0 (cellsU8 zs))) (hz : Hid (∀ z ∈ zs, 0 ≤ z ∧ z ≤ 255)) (m0 : 0 ≤ mo) (m1 : mo ≤ 255) (hSh : Hid (Shapes w)) :
    Calls Tryd.prog 3 #[.slice A0 n0 c0, .int .u8 mo] w fun e w' => e = .returned (.bool true) ∧ Below w.heap.size w w' := by
  obtain ⟨M, rfl⟩ : ∃ M : Nat, mo = (M : Int) := ⟨mo.toNat, by omega⟩
  go_enter Tryd.func3, Tryd.ntmps3
  go_wp2_with fail
  refine (awake8_any w hSh).mono ?_
  rintro e w1 ⟨rfl, hb1⟩
  have HB1 := hide hb1
  have HS1 := hide ((hs.out.below hb1).more hb1.size)
  have HSh1 := hide (hSh.out.below hb1)
  clear hb1
  go_wp2_with fail
  refine (scene_any A0 n0 c0 zs w1 hA hn hnc hm HS1 hz).mono ?_
  rintro e w2 ⟨A, n, c, hs2, F, Ai, ni, ci, inp, fu, lw, g, rfl, hpg, hE, him, hI, hIv, hfu, hb2⟩
  obtain ⟨f0, f1⟩ := hfu
  obtain ⟨N, rfl⟩ : ∃ N : Nat, fu = (N : Int) := ⟨fu.toNat, by omega⟩
  have hN : N ≤ 255 := by omega
  have hM : M ≤ 255 := by omega
  obtain ⟨W, hW⟩ : ∃ V, w2.alloc (.cells #[.slice A n c] 26) = V := ⟨_, rfl⟩
  have HW := hide hW
  have hb3 := below1 w2 (.cells #[.slice A n c] 26)
  rw [hW] at hb3
  obtain ⟨B, hB⟩ : ∃ B, w2.heap.size = B := ⟨_, rfl⟩
  have HBB := hide hB
  have RB := hide (show Row W B 26 [.slice A n c] by rw [← hW, ← hB]; exact Row.new w2 _ _)
  have HP := hide ((hpg.below hb3).more hb3.size (Nat.le_refl _))
  have HI := hide ((hI.below hb3).more hb3.size)
  have HSh := hide ((HSh1.out.below hb2).below hb3)
  have HBW := hide (HB1.out.trans ((hb2.trans (hb3.mono hb2.size)).mono HB1.out.size))
  have cr : ∀ (q : Nat) (wr : World), Hid (q ≤ 100000) → Hid (Below W.heap.size W wr) → Calls Tryd.prog 10 #[gv A n c, .slice Ai ni ci, .int .i64 (q : Int)] wr (fun e w' => ∃ (A1 : Option Addr) (c1 : Nat), e = .returned (.tuple #[.agg (ovl (runM F inp q).kind (runM F inp q).code (runM F inp q).res A1 (runM F inp q).trace.length c1 (runM F inp q).steps).toArray, .int .i64 0]) ∧ TrAt w' w'.heap.size A1 (runM F inp q).trace.length c1 (runM F inp q).trace ∧ Below wr.heap.size wr w') := fun q wr hq HBl => by
    refine (out_any F inp (q : Int) Ai ni ci wr (hide him) (hide ((HI.out.below HBl.out).more HBl.out.size)) (hide hIv) (hide ((HP.out.below HBl.out).more HBl.out.size (Nat.le_refl _))) (hide (HSh.out.below HBl.out))).mono ?_
    rintro e w' ⟨vt, rfl, hto, hb⟩
    rw [run_S hE inp q hq.out] at hto ⊢
    rw [run_E hE q hq.out]
    obtain ⟨A1, c1, rfl, -⟩ := own_seen hto
    exact ⟨A1, c1, rfl, tr_own hto rfl (run_vals hE him hIv q).t, hb⟩
  have VA := hide (run_vals hE him hIv N).r
  have VB := hide (run_vals hE him hIv (N + M)).r
  have MF := hide (moreF F inp N M)
  obtain ⟨a, ha⟩ : ∃ a, runM F inp N = a := ⟨_, rfl⟩
  obtain ⟨b, hb⟩ : ∃ b, runM F inp (N + M) = b := ⟨_, rfl⟩
  have ca := cr N
  have cb := cr (N + M)
  rw [ha] at ca VA MF
  rw [hb] at cb VB MF
  rw [show ((N + M : Nat) : Int) = (N : Int) + (M : Int) by omega] at cb
  clear hpg hE him hI hIv hb2 hb3 hW hB HSh1 HS1 HB1 ha hb HI HP HSh cr
  go_upto_region 4 with (fail)
  rw [HW.out, HBB.out]
  clear HW HBB
  have p0 := RB.out.cell (k := 0) rfl
  have ca1 := ca W (hide (by omega)) (hide (Below.refl _ _))
  go_wp2_with fail
  refine ca1.mono ?_
  rintro e w4 ⟨A1, c1, rfl, hta, hb4⟩
  obtain ⟨W3, hW3⟩ : ∃ V, w4.alloc (.cells #[.int .i64 a.kind, .int .u64 a.code, .int .u64 (lo a.res), .int .u64 (hi a.res), .slice A1 a.trace.length c1, .int .i64 (a.steps : Int)] 36) = V := ⟨_, rfl⟩
  have HW3 := hide hW3
  have hb5 : Below w4.heap.size w4 W3 := by rw [← hW3]; exact below1 _ _
  have B3 := hide (hb4.trans (hb5.mono hb4.size))
  have TA := hide (hta.call hb5)
  obtain ⟨ga, hga⟩ : ∃ g, w4.heap.size = g := ⟨_, rfl⟩
  have HGA := hide hga
  have RA := hide (show Row W3 ga 36 (ovl a.kind a.code a.res A1 a.trace.length c1 a.steps) by rw [← hga, ← hW3]; exact Row.new w4 _ _)
  have p1 := (RB.out.below B3.out RB.out.lt).cell (k := 0) rfl
  have cb1 := cb W3 (hide (by omega)) B3
  clear ca1 ca cb hta hb4 hb5 p0 hW3 hga
  go_upto_region 5 with (fail)
  rw [HW3.out, HGA.out]
  clear HW3 HGA
  go_wp2_with fail
  refine cb1.mono ?_
  rintro e w5 ⟨A2, c2, rfl, htb, hb6⟩
  obtain ⟨W5, hW5⟩ : ∃ V, w5.alloc (.cells #[.int .i64 b.kind, .int .u64 b.code, .int .u64 (lo b.res), .int .u64 (hi b.res), .slice A2 b.trace.length c2, .int .i64 (b.steps : Int)] 36) = V := ⟨_, rfl⟩
  have HW5 := hide hW5
  have hb7 : Below w5.heap.size w5 W5 := by rw [← hW5]; exact below1 _ _
  have hb67 := hb6.trans (hb7.mono hb6.size)
  have B5 := hide (below_call B3.out hb67)
  have TA5 := hide (TA.out.call hb67)
  have TB5 := hide (htb.call hb7)
  obtain ⟨gb, hgb⟩ : ∃ g, w5.heap.size = g := ⟨_, rfl⟩
  have HGB := hide hgb
  have RA5 := hide (RA.out.call hb67)
  have RB5 := hide (show Row W5 gb 36 (ovl b.kind b.code b.res A2 b.trace.length c2 b.steps) by rw [← hgb, ← hW5]; exact Row.new w5 _ _)
  clear cb1 htb hb6 hb7 hb67 TA RA B3 p1 hW5 hgb
  go_upto_region 6 with (fail)
  rw [HW5.out, HGB.out]
  clear HW5 HGB
  have x0 := RA5.out.cell (k := 0) rfl
  have x4 := RA5.out.cell (k := 4) rfl
  have x5 := RA5.out.cell (k := 5) rfl
  have y4 := RB5.out.cell (k := 4) rfl
  have y5 := RB5.out.cell (k := 5) rfl
  have q1 : (a.trace.length : Int) ≤ (b.trace.length : Int) := by have := MF.out.tr; omega
  have q2 : (a.steps : Int) ≤ (b.steps : Int) := by have := MF.out.st; omega
  have q3 : (a.steps : Int) ≤ (N : Int) := by have := MF.out.mo; omega
  by_cases hk : a.kind = 4
  · have hst : a.steps = N := MF.out.eq hk
    have hpre := hide MF.out.pre
    have hla : a.trace.length ≤ b.trace.length := MF.out.tr
    have hlc : b.trace.length ≤ c2 := TB5.out.cap
    have hlm := TB5.out.most
    rw [hk] at x0
    rw [hst] at x5 q2 q3
    have ct : ∀ p : After W5, Calls Tryd.prog 12 #[.slice A1 a.trace.length c1, .slice A2 a.trace.length c2] p.w fun e w' => e = .returned (.bool true) ∧ Below p.w.heap.size p.w w' := fun p => by
      have h := strace_any A1 a.trace.length c1 a.trace A2 a.trace.length c2 (b.trace.take a.trace.length) p.w.heap.size p.w (hide (TA5.out.call p.b)) (hide (tr_take (TB5.out.call p.b) hla)) (Nat.le_refl _)
      rw [hpre.out, decide_eq_true rfl] at h
      exact h
    have CT := hide ct
    have X4 := fun p : After W5 => after_cell x4 p
    have X5 := fun p : After W5 => after_cell x5 p
    have Y4 := fun p : After W5 => after_cell y4 p
    clear ct
    go_upto_region 10 with (fail)
    refine wp_region_after (by kernel_rfl) (by kernel_rfl) ?_
    repeat (go_big_quiet_step ((go_at_call 12; with_reducible exact after_of (CT.out _))))
    refine wpQuiet_nil ?_
    intro _ hw'
    obtain ⟨p2, hw''⟩ := hw'
    subst hw''
    have HF := hide (HBW.out.trans ((below_call B5.out p2.b).mono HBW.out.size))
    go_wp2_with fail
    go_ret
    exact ⟨rfl, HF.out⟩
  · have hba : b = a := MF.out.ne hk
    subst hba
    have hkb : (b.kind == 4) = false := by simpa using hk
    have cs := rsame_out b.kind b.code b.res A1 b.trace.length c1 b.trace b.steps b.kind b.code b.res A2 b.trace.length c2 b.trace b.steps W5 TA5 TB5 (by have := VA.out; exact this) (by have := VB.out; exact this)
    rw [show outB b.kind b.code b.res b.trace (b.steps : Int) b.kind b.code b.res b.trace (b.steps : Int) = true by simp [outB]] at cs
    have h1 := load_row (agg_outcome (w := W5)) (size_outcome (w := W5)) rfl RA5.out
    have h2 := load_row (agg_outcome (w := W5)) (size_outcome (w := W5)) rfl RB5.out
    go_upto_region 9 with (fail)
    go_wp2_with (first | (refine wpList_load_whole 36 (.tmp 9) rfl rfl _ _ rfl h1 ?_) | (refine wpList_load_whole 36 (.tmp 11) rfl rfl _ _ rfl h2 ?_) | fail)
    refine cs.mono ?_
    rintro e w6 ⟨rfl, hb8⟩
    have HF := hide (HBW.out.trans ((below_call B5.out hb8).mono HBW.out.size))
    go_wp2_with fail
    go_ret
    exact ⟨rfl, HF.out⟩
end Go.Proofs.YtipjeihfhnilcaaDoor
end

section
/-
  SirrunFuelIsMonotone: for every input the law returns true, and each argument reads behind the call as it did before, where the listed table lies as its initialiser lays it; the card ties that table to the program's text. No other condition: every input that the row speaks of.
-/
namespace Go.Proofs.YtipjeihfhnilcaaDoor
open Go.ChangeShapes Go.WideShapes Go.ChangeAt Go.RowKit

namespace rowSirrunFuelIsMonotone
set_option maxRecDepth 100000 in
theorem contract (H : Type) (enc : TypeId × Value → H) (W : World) (base : Nat) (args : Array Value) (ds gs : List (DataW H)) (before : List MemPlace)
    (hval : ∀ (j : Nat) t v, Tryd.f3.params[j]? = some t → args[j]? = some v → Value.okWide Tryd.prog W .any base t v)
    (hW : DataW.Whole enc Tryd.prog Tryd.f3.params.toList Rows.sirrunFuelIsMonotoneSpec.vars false W args.toList ds gs before) (hL : laidMetH Tryd.prog laidOne W) :
    Calls Tryd.prog 3 args W fun e W' => ∃ v, e = .returned v ∧ Rows.sirrunFuelIsMonotoneSpec.post enc Tryd.prog Tryd.f3 false true false false W args v W' := by
  have hW' := hW
  obtain ⟨p, q, hA, hV, rfl, hfz, hnd⟩ := hW
  have hA : DataW.TrodAll enc Tryd.prog W 0 (fun _ => true) true Tryd.f3.params.toList args.toList ds p := hA
  rw [Tryd.params3] at hA hval
  obtain ⟨v0, vs0, d0, ds0, p0, q0, hargs, rfl, rfl, h0, r0⟩ := trodAll_cons hA
  obtain ⟨v1, vs1, d1, ds1, p1, q1, rfl, rfl, rfl, h1, r1⟩ := trodAll_cons r0
  obtain ⟨rfl, rfl, rfl⟩ := trodAll_nil r1
  obtain rfl : args = #[v0, v1] := by cases args; simp_all
  obtain ⟨A0, n0, c0, zs0, rfl, hA0, hn0, hm0, hs0, hz0, hc0⟩ := open_u8s Tryd.underlying22 Tryd.underlying5 cells_u8 (hval 0 22 v0 rfl rfl) h0
  obtain ⟨a1, rfl, _, _, w1⟩ := open_int Tryd.underlying5 (hval 1 5 v1 rfl rfl) h1
  have b1 := bounds_u8 w1
  refine (fuelaw_walk A0 n0 c0 zs0 a1 W hA0 hn0 hc0 hm0 hs0 hz0 b1.1 b1.2 (hide (shapes_of_laid hL))).mono fun e W' ⟨he, hB⟩ => ⟨_, he, ?_⟩
  exact law_post laid_out (by decide +kernel) rfl rfl Tryd.underlying4 rfl hW' hB

set_option maxRecDepth 100000 in
theorem lifted (os : Os) (started : os.Started) (H : Type) (enc : TypeId × Value → H) :
    ReturnsInHanded {} Tryd.checked os 3 .any (fun w args => (Rows.sirrunFuelIsMonotoneSpec.pre enc Tryd.prog Tryd.f3 [] false w args ∧ laidMetH Tryd.prog laidOne w) ∧ sizedMet enc Tryd.prog Tryd.f3 (OpenSpec.ofChange Rows.sirrunFuelIsMonotoneSpec) false w args)
      (Rows.sirrunFuelIsMonotoneSpec.post enc Tryd.prog Tryd.f3 false true false false) := by
  refine returnsInHanded_of_change_and (C := Tryd.checked) (X := fun w _ => laidMetH Tryd.prog laidOne w) (fun _ _ _ hh h => h.of_heap hh) own_knob started (by kernel_rfl) Tryd.func3
    (ChangeSpec.witness_shaped (enc := enc) (C := Tryd.checked) (os := os) (X := fun w _ => laidMetH Tryd.prog laidOne w) false (World.doorLaid Tryd.prog 400 os) #[.slice none 0 0, .int .u8 0] 8 rfl (World.shaped_of_RefB (by kernel_rfl) (by kernel_rfl)) (by kernel_rfl) (by kernel_rfl) (by kernel_rfl) (door_met os _)) ?_
  intro W base args ds gs before hval hW _ _ hL _
  exact contract H enc W base args ds gs before hval hW hL

theorem row : Rows.SirrunFuelIsMonotoneSaid :=
  OpenClaim.holds_of_wide 3 Tryd.f3 rfl rfl rfl rfl rfl rfl rfl ⟨rfl, rfl, rfl, rfl, rfl⟩ rfl rfl rfl rfl rfl (by kernel_rfl) Tryd.func3 (by kernel_rfl)
    (of_decide_eq_true (by kernel_rfl)) (by unfold Func.isWrapper; first | (rw [if_pos (by decide +kernel)]; kernel_rfl) | (rw [if_neg (by decide +kernel)]; exact ⟨rfl, rfl⟩))
    (fun os started H enc _ => lifted os started H enc)

theorem proved : Rows.SirrunFuelIsMonotoneCardSaid :=
  Claim7.holds_tied_plain_at .later [] [.data] true (true, "7214d98ae4d8f6f134295dcbcb4eafae30b3741b3e4c3b827d3dac806e496980") false
    row (fun _ h => by cases h) (by kernel_rfl) (fun _ h => by cases h) sirrunFuelIsMonotone_row_tie rfl ⟨rfl, rfl⟩ (by kernel_rfl) rfl
    (fun f fn hf hfn => by
      obtain rfl : f = 3 := Option.some.inj ((show Tryd.prog.funcNamed "spillframe/spillframelaw08.SirrunFuelIsMonotone" = some 3 by kernel_rfl).symm.trans hf) |>.symm
      obtain rfl : fn = Tryd.f3 := (Option.some.inj (Tryd.func3.symm.trans hfn)).symm
      exact ⟨by kernel_rfl, fun j t ht => by
        rw [Tryd.params3] at ht
        have hm : t ∈ [22, 5] := by simpa using Array.mem_of_getElem? ht
        have hall : ([22, 5].all fun u => !Tryd.prog.wantsStandIn u) = true := by kernel_rfl
        exact (show Tryd.prog.wantsStandIn t = false by simpa using List.all_eq_true.1 hall t hm)⟩)
    (by kernel_rfl)
end rowSirrunFuelIsMonotone
end Go.Proofs.YtipjeihfhnilcaaDoor
end
