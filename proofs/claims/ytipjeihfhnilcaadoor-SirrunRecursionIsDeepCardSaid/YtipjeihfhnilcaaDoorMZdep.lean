import Derived.Test.YtipjeihfhnilcaaDoorMZgo
import Derived.Test.YtipjeihfhnilcaaDoorMZawk
import Derived.Test.YtipjeihfhnilcaaDoorMBsop
import Derived.Test.YtipjeihfhnilcaaDoorTie
import Derived.Test.YtipjeihfhnilcaaDoorCards
import Derived.SevenTiedAt
set_option linter.unusedVariables false
set_option linter.unusedSimpArgs false
section
/-
  The contract of Depth (chapter 8). Conditions: those of the types; the table of shapes lies as it is laid.
-/
namespace Go.Proofs.YtipjeihfhnilcaaDoor
open Go.RowKit

set_option maxRecDepth 100000 in
set_option maxHeartbeats 4000000 in
theorem depth_any (F : Pg) (inp : List Nat) (fuel : Int) {lo n c : Nat} {A : Option Addr} {hs : List Hd} (Ai : Option Addr) (ni ci : Nat) (w : World) (him : Hid (ImmF F)) (hI : Hid (InAt w w.heap.size (.slice Ai ni ci) inp)) (hIv : Hid (∀ v ∈ inp, v < 18446744073709551616)) (hPg : Hid (PgAt w lo w.heap.size A n c hs F)) (hSh : Hid (Shapes w)) :
    Calls Tryd.prog 16 #[gv A n c, .slice Ai ni ci, .int .i64 fuel] w fun e w' => e = .returned (.tuple #[.int .i64 ((runS F inp fuel).depth : Int), .int .i64 (runE F fuel)]) ∧ Below w.heap.size w w' := by
  obtain ⟨W1, hW1⟩ : ∃ W1, w.alloc (.cells #[.slice A n c] 26) = W1 := ⟨_, rfl⟩
  have HW1 := hide hW1
  have hb0 := hide (show Below w.heap.size w W1 by rw [← hW1]; exact below1 w _)
  have hsz := hide (show W1.heap.size = w.heap.size + 1 by rw [← hW1]; simp)
  have RB := hide (show Row W1 w.heap.size 26 [.slice A n c] by rw [← HW1.out]; exact Row.new w _ _)
  have cr := run_any F inp fuel Ai ni ci W1 him (hide ((hI.out.below hb0.out).more hb0.out.size)) hIv (hide ((hPg.out.below hb0.out).more hb0.out.size (Nat.le_refl _))) (hide (hSh.out.below hb0.out))
  clear hW1
  go_enter Tryd.func16, Tryd.ntmps16
  go_upto_region 1 with (fail)
  rw [HW1.out]
  have c0 := RB.out.cell (k := 0) rfl
  clear HW1
  go_wp2_with fail
  refine cr.mono ?_
  rintro e w2 ⟨fu, vi, vt, vf, vs, rfl, h8, h1, hto, hb2⟩
  have B2 := hide (hb0.out.trans (hb2.mono hb0.out.size))
  have RN := hide (show Row (w2.alloc (.cells #[.slice none 0 0, .int .i64 0, .int .i64 0, .int .u64 0, .int .u64 0, .int .u64 0, .slice none 0 0, .int .i64 0, .int .u64 0, .int .u64 0, .int .u64 0, .int .u64 0, .int .u64 0, .int .u64 0, .int .u64 0, .int .u64 0, .int .u64 0, .int .u64 0, .int .u64 0, .int .u64 0, .int .u64 0, .int .u64 0, .int .u64 0, .int .u64 0, .bool false, .slice none 0 0, .slice none 0 0, .int .i64 0] 69)) w2.heap.size 69 (mcells 0 zeroM (.slice none 0 0) (.slice none 0 0) (.slice none 0 0) (.slice none 0 0)) from Row.new w2 69 (mcells 0 zeroM (.slice none 0 0) (.slice none 0 0) (.slice none 0 0) (.slice none 0 0)))
  have hst := store_row (vs := mcells fu (runS F inp fuel) vi vt vf vs) (size_machine (w := w2.alloc (.cells #[.slice none 0 0, .int .i64 0, .int .i64 0, .int .u64 0, .int .u64 0, .int .u64 0, .slice none 0 0, .int .i64 0, .int .u64 0, .int .u64 0, .int .u64 0, .int .u64 0, .int .u64 0, .int .u64 0, .int .u64 0, .int .u64 0, .int .u64 0, .int .u64 0, .int .u64 0, .int .u64 0, .int .u64 0, .int .u64 0, .int .u64 0, .int .u64 0, .bool false, .slice none 0 0, .slice none 0 0, .int .i64 0] 69))) (mcells_len h8) (mcells_len rfl) h1 RN.out
  have RM := hide (set_row_row (vs := mcells fu (runS F inp fuel) vi vt vf vs) RN.out)
  have GM := hide (set_row_grown (w2.alloc (.cells #[.slice none 0 0, .int .i64 0, .int .i64 0, .int .u64 0, .int .u64 0, .int .u64 0, .slice none 0 0, .int .i64 0, .int .u64 0, .int .u64 0, .int .u64 0, .int .u64 0, .int .u64 0, .int .u64 0, .int .u64 0, .int .u64 0, .int .u64 0, .int .u64 0, .int .u64 0, .int .u64 0, .int .u64 0, .int .u64 0, .int .u64 0, .int .u64 0, .bool false, .slice none 0 0, .slice none 0 0, .int .i64 0] 69)) w2.heap.size (mcells fu (runS F inp fuel) vi vt vf vs).toArray)
  obtain ⟨W3, hW3⟩ : ∃ W3, (w2.alloc (.cells #[.slice none 0 0, .int .i64 0, .int .i64 0, .int .u64 0, .int .u64 0, .int .u64 0, .slice none 0 0, .int .i64 0, .int .u64 0, .int .u64 0, .int .u64 0, .int .u64 0, .int .u64 0, .int .u64 0, .int .u64 0, .int .u64 0, .int .u64 0, .int .u64 0, .int .u64 0, .int .u64 0, .int .u64 0, .int .u64 0, .int .u64 0, .int .u64 0, .bool false, .slice none 0 0, .slice none 0 0, .int .i64 0] 69)).setRow w2.heap.size (mcells fu (runS F inp fuel) vi vt vf vs).toArray = W3 := ⟨_, rfl⟩
  rw [hW3] at hst RM GM
  have B3 := hide (show Below w.heap.size w W3 from (B2.out.alloc B2.out.size _).grown GM.out (by have := RN.out.lt; have := B2.out.size; omega) (fun k hk => by injection hk with hk; have := B2.out.size; omega))
  have c27 : W3.cell? ⟨w2.heap.size, 27, none⟩ = some (.int .i64 ((runS F inp fuel).depth : Int)) := RM.out.cell (by unfold mcells; rw [show 27 = 24 + 3 from rfl, ccells_end (show (runS F inp fuel).co.regs.length = 8 from h8)]; rfl)
  generalize hX : (mcells fu (runS F inp fuel) vi vt vf vs).toArray = X at hst
  clear hX cr hb2 hto h1 h8 RN RM GM hW3 c0
  go_wp2_with (first | (refine wpList_store_whole 69 (.tmp 8) (.tmp 15) rfl rfl _ _ rfl rfl hst ?_) | fail)
  exact bodyPost_ret (results_tmp2 rfl _ _ _) rfl ⟨rfl, B3.out⟩
end Go.Proofs.YtipjeihfhnilcaaDoor
end

section
/-
  The law on deep recursion (chapter 8). Conditions: those of the types; the table of shapes lies as it is laid.
-/
namespace Go.Proofs.YtipjeihfhnilcaaDoor
open Go.RowKit

def reF : Pg := [⟨0, [], [⟨22, 0, 0, 0, 0⟩, ⟨23, 0, 0, 0, 0⟩]⟩]
theorem re_pg : pgE reF = 0 := by decide
theorem re_imm : ImmF reF := by
  intro f hf x hx
  simp [reF] at hf
  subst hf
  simp at hx
  rcases hx with rfl | rfl <;> decide
theorem re_step {s : Mch} (hf : s.top.f = 0) (hp : s.top.pc = 0) : s.stepM reF = s.fetched.enter 0 := by
  have hn : s.next reF = ⟨22, 0, 0, 0, 0⟩ := by unfold Mch.next; rw [hf, hp]; rfl
  unfold Mch.stepM
  rw [hn]
  rfl
theorem enter_top (s : Mch) (f : Nat) : (s.enter f).top = ⟨f, 0, noC, noC⟩ := by
  unfold Mch.enter Mch.top
  simp
theorem re_iter : ∀ n : Nat, (iterM reF n (startM [])).ended = false ∧ (iterM reF n (startM [])).steps = n ∧ (iterM reF n (startM [])).depth = n + 1 ∧ (iterM reF n (startM [])).st.length = n + 1 ∧ (iterM reF n (startM [])).top.f = 0 ∧ (iterM reF n (startM [])).top.pc = 0 := by
  intro n
  induction n with
  | zero => exact ⟨rfl, rfl, rfl, rfl, rfl, rfl⟩
  | succ n ih =>
    obtain ⟨h1, h2, h3, h4, h5, h6⟩ := ih
    rw [iterM_succ, if_neg (by rw [h1]; decide), re_step h5 h6]
    generalize iterM reF n (startM []) = s at h1 h2 h3 h4 h5 h6
    have hl : s.fetched.st.length = n + 1 := by
      unfold Mch.fetched Mch.jump Mch.setTop
      simp [h4]
    refine ⟨h1, ?_, ?_, ?_, by rw [enter_top], by rw [enter_top]⟩
    · show s.steps + 1 = n + 1
      rw [h2]
    · show max s.depth (s.fetched.st.length + 1) = n + 1 + 1
      rw [hl, h3]; omega
    · show (s.fetched.st ++ [_]).length = n + 1 + 1
      rw [List.length_append, hl]; rfl
theorem re_run (n : Nat) : (runM reF [] n).kind = 4 ∧ (runM reF [] n).steps = n ∧ (runM reF [] n).depth = n + 1 := by
  obtain ⟨h1, h2, h3, _⟩ := re_iter n
  unfold runM Mch.fuelled
  rw [if_neg (by rw [h1]; decide)]
  exact ⟨rfl, h2, h3⟩
theorem re_runE (n : Nat) (h : n ≤ 100000) : runE reF (n : Int) = 0 := by
  unfold runE
  rw [if_neg (by rw [re_pg]; decide), if_pos (by omega)]
theorem re_runS (n : Nat) (h : n ≤ 100000) : runS reF [] (n : Int) = runM reF [] n := by
  unfold runS
  rw [if_pos (re_runE n h), Int.toNat_natCast]
set_option maxRecDepth 100000 in
set_option maxHeartbeats 4000000 in
theorem reclaw_walk (x : Int) (w : World) (hx0 : 0 ≤ x) (hx1 : x ≤ 65535) (hSh : Hid (Shapes w)) :
    Calls Tryd.prog 6 #[.int .u16 x] w fun e w' => e = .returned (.bool true) ∧ Below w.heap.size w w' := by
  obtain ⟨n, hn, hn3⟩ : ∃ n : Nat, Int.tmod x 300 = (n : Int) ∧ n < 300 := by
    rw [Int.tmod_eq_emod_of_nonneg hx0]
    exact ⟨(x % 300).toNat, by omega, by omega⟩
  go_enter Tryd.func6, Tryd.ntmps6
  go_wp2_with fail
  refine (awake8_any w hSh).mono ?_
  rintro e w1 ⟨rfl, hb1⟩
  have HB1 := hide hb1
  obtain ⟨W, hW⟩ : ∃ W, ((w1.alloc (.cells #[.int .i64 22, .int .i64 0, .int .i64 0, .int .i64 0, .int .u64 0, .int .i64 23, .int .i64 0, .int .i64 0, .int .i64 0, .int .u64 0] 48)).alloc (.cells #[.int .i64 0, .slice none 0 0, .slice (some ⟨w1.heap.size, 0, none⟩) 2 2] 52)).alloc (.cells #[.slice (some ⟨w1.heap.size + 1, 0, none⟩) 1 1] 26) = W := ⟨_, rfl⟩
  have HW := hide hW
  have hb := hide (show Below w1.heap.size w1 W by rw [← hW]; exact (below2 w1 _ _).alloc (below2 w1 _ _).size _)
  have sz1 : (w1.alloc (.cells #[.int .i64 22, .int .i64 0, .int .i64 0, .int .i64 0, .int .u64 0, .int .i64 23, .int .i64 0, .int .i64 0, .int .i64 0, .int .u64 0] 48)).heap.size = w1.heap.size + 1 := by simp
  have r0 := hide (show Row W w1.heap.size 48 (icells [⟨22, 0, 0, 0, 0⟩, ⟨23, 0, 0, 0, 0⟩]) by rw [← hW]; exact ((Row.new w1 _ (icells [⟨22, 0, 0, 0, 0⟩, ⟨23, 0, 0, 0, 0⟩])).alloc _).alloc _)
  have r1 := hide (show Row W (w1.heap.size + 1) 52 [.int .i64 0, .slice none 0 0, .slice (some ⟨w1.heap.size, 0, none⟩) 2 2] by
    rw [← hW]
    have := Row.new (w1.alloc (.cells #[.int .i64 22, .int .i64 0, .int .i64 0, .int .i64 0, .int .u64 0, .int .i64 23, .int .i64 0, .int .i64 0, .int .i64 0, .int .u64 0] 48)) 52 [.int .i64 0, .slice none 0 0, .slice (some ⟨w1.heap.size, 0, none⟩) 2 2]
    rw [sz1] at this
    exact this.alloc _)
  have r2 := hide (show Row W (w1.heap.size + 1 + 1) 26 [.slice (some ⟨w1.heap.size + 1, 0, none⟩) 1 1] by
    rw [← hW]
    have := Row.new ((w1.alloc (.cells #[.int .i64 22, .int .i64 0, .int .i64 0, .int .i64 0, .int .u64 0, .int .i64 23, .int .i64 0, .int .i64 0, .int .i64 0, .int .u64 0] 48)).alloc (.cells #[.int .i64 0, .slice none 0 0, .slice (some ⟨w1.heap.size, 0, none⟩) 2 2] 52)) 26 [.slice (some ⟨w1.heap.size + 1, 0, none⟩) 1 1]
    rw [show ((w1.alloc (.cells #[.int .i64 22, .int .i64 0, .int .i64 0, .int .i64 0, .int .u64 0, .int .i64 23, .int .i64 0, .int .i64 0, .int .i64 0, .int .u64 0] 48)).alloc (.cells #[.int .i64 0, .slice none 0 0, .slice (some ⟨w1.heap.size, 0, none⟩) 2 2] 52)).heap.size = w1.heap.size + 1 + 1 by simp] at this
    exact this)
  have hWs := r2.out.lt
  have hP := hide (one_pg (B := W.heap.size) r0.out.lt r1.out.lt 0 _ rfl (by decide) r0.out r1.out)
  have HSh := hide (hSh.out.below (hb1.trans (hb.out.mono hb1.size)))
  have cr := out_any reF [] (n : Int) none 0 0 W (hide re_imm) (hide (in_nil _ _)) (hide (fun v hv => by cases hv)) hP HSh
  have cd : ∀ w', Below W.heap.size W w' → Calls Tryd.prog 16 #[gv (some ⟨w1.heap.size + 1, 0, none⟩) 1 1, .slice none 0 0, .int .i64 (n : Int)] w' _ := fun w' hw' => depth_any reF [] (n : Int) none 0 0 w' (hide re_imm) (hide (in_nil _ _)) (hide (fun v hv => by cases hv)) (hide ((hP.out.below hw').more hw'.size (Nat.le_refl _))) (hide (HSh.out.below (hw'.mono (by have := hb.out.size; have := hb1.size; omega))))
  rw [re_runE n (by omega), re_runS n (by omega), (re_run n).2.2] at cd
  clear hW sz1
  go_wp2_with fail
  rw [HW.out]
  refine cr.mono ?_
  rintro e w2 ⟨vt, rfl, hto, hb2⟩
  have HY : (ocells (runS reF [] (n : Int)) vt).toArray = #[.int .i64 4, .int .u64 (runM reF [] n).code, .int .u64 (lo (runM reF [] n).res), .int .u64 (hi (runM reF [] n).res), vt, .int .i64 (n : Int)] := by rw [re_runS n (by omega)]; unfold ocells; rw [(re_run n).1, (re_run n).2.1]
  rw [HY, re_runE n (by omega)]
  generalize (runM reF [] n).code = C
  generalize lo (runM reF [] n).res = L
  generalize hi (runM reF [] n).res = R
  obtain ⟨W3, hst, RO, hb3⟩ := put_outcome w2 [.int .i64 4, .int .u64 C, .int .u64 L, .int .u64 R, vt, .int .i64 (n : Int)] rfl (outl_one (own_oneCell hto))
  have hb23 := hb2.trans (hb3.mono hb2.size)
  have p0 := (r2.out.below hb23 hWs).cell (k := 0) rfl
  have cd2 := cd W3 hb23
  clear cd cr HY hto hP r0 r1 HW hb2 hb3
  go_wp2_with (first | (refine wpList_store_whole 36 (.tmp 5) (.tmp 24) rfl rfl _ _ rfl rfl hst ?_) | fail)
  refine cd2.mono ?_
  rintro e w4 ⟨rfl, hb4⟩
  have RO4 := RO.call hb4
  have x0 := RO4.cell (k := 0) rfl
  have x5 := RO4.cell (k := 5) rfl
  have HB4 := hide (HB1.out.trans ((hb.out.trans ((hb23.trans (hb4.mono hb23.size)).mono hb.out.size)).mono HB1.out.size))
  rw [show ((n + 1 : Nat) : Int) = (n : Int) + 1 by omega]
  clear cd2 RO RO4 hb23 hb4 hb p0
  go_wp2_with fail
  exact bodyPost_ret (results_tmp rfl _ _ _) rfl ⟨rfl, HB4.out⟩
end Go.Proofs.YtipjeihfhnilcaaDoor
end

section
/-
  SirrunRecursionIsDeep: for every input the law returns true, and each argument reads behind the call as it did before, where the listed table lies as its initialiser lays it; the card ties that table to the program's text. No other condition: every input that the row speaks of.
-/
namespace Go.Proofs.YtipjeihfhnilcaaDoor
open Go.ChangeShapes Go.WideShapes Go.ChangeAt Go.RowKit

namespace rowSirrunRecursionIsDeep
set_option maxRecDepth 100000 in
theorem contract (H : Type) (enc : TypeId × Value → H) (W : World) (base : Nat) (args : Array Value) (ds gs : List (DataW H)) (before : List MemPlace)
    (hval : ∀ (j : Nat) t v, Tryd.f6.params[j]? = some t → args[j]? = some v → Value.okWide Tryd.prog W .any base t v)
    (hW : DataW.Whole enc Tryd.prog Tryd.f6.params.toList Rows.sirrunRecursionIsDeepSpec.vars false W args.toList ds gs before) (hL : laidMetH Tryd.prog laidOne W) :
    Calls Tryd.prog 6 args W fun e W' => ∃ v, e = .returned v ∧ Rows.sirrunRecursionIsDeepSpec.post enc Tryd.prog Tryd.f6 false true false false W args v W' := by
  have hW' := hW
  obtain ⟨p, q, hA, hV, rfl, hfz, hnd⟩ := hW
  have hA : DataW.TrodAll enc Tryd.prog W 0 (fun _ => true) true Tryd.f6.params.toList args.toList ds p := hA
  rw [Tryd.params6] at hA hval
  obtain ⟨v0, vs0, d0, ds0, p0, q0, hargs, rfl, rfl, h0, r0⟩ := trodAll_cons hA
  obtain ⟨rfl, rfl, rfl⟩ := trodAll_nil r0
  obtain rfl : args = #[v0] := by cases args; simp_all
  obtain ⟨a0, rfl, _, _, w0⟩ := open_int Tryd.underlying46 (hval 0 46 v0 rfl rfl) h0
  have b0 := bounds_u16 w0
  refine (reclaw_walk a0 W b0.1 b0.2 (hide (shapes_of_laid hL))).mono fun e W' ⟨he, hB⟩ => ⟨_, he, ?_⟩
  exact law_post laid_out (by decide +kernel) rfl rfl Tryd.underlying4 rfl hW' hB

set_option maxRecDepth 100000 in
theorem lifted (os : Os) (started : os.Started) (H : Type) (enc : TypeId × Value → H) :
    ReturnsInHanded {} Tryd.checked os 6 .any (fun w args => (Rows.sirrunRecursionIsDeepSpec.pre enc Tryd.prog Tryd.f6 [] false w args ∧ laidMetH Tryd.prog laidOne w) ∧ sizedMet enc Tryd.prog Tryd.f6 (OpenSpec.ofChange Rows.sirrunRecursionIsDeepSpec) false w args)
      (Rows.sirrunRecursionIsDeepSpec.post enc Tryd.prog Tryd.f6 false true false false) := by
  refine returnsInHanded_of_change_and (C := Tryd.checked) (X := fun w _ => laidMetH Tryd.prog laidOne w) (fun _ _ _ hh h => h.of_heap hh) own_knob started (by kernel_rfl) Tryd.func6
    (ChangeSpec.witness_shaped (enc := enc) (C := Tryd.checked) (os := os) (X := fun w _ => laidMetH Tryd.prog laidOne w) false (World.doorLaid Tryd.prog 400 os) #[.int .u16 0] 8 rfl (World.shaped_of_RefB (by kernel_rfl) (by kernel_rfl)) (by kernel_rfl) (by kernel_rfl) (by kernel_rfl) (door_met os _)) ?_
  intro W base args ds gs before hval hW _ _ hL _
  exact contract H enc W base args ds gs before hval hW hL

theorem row : Rows.SirrunRecursionIsDeepSaid :=
  OpenClaim.holds_of_wide 6 Tryd.f6 rfl rfl rfl rfl rfl rfl rfl ⟨rfl, rfl, rfl, rfl, rfl⟩ rfl rfl rfl rfl rfl (by kernel_rfl) Tryd.func6 (by kernel_rfl)
    (of_decide_eq_true (by kernel_rfl)) (by unfold Func.isWrapper; first | (rw [if_pos (by decide +kernel)]; kernel_rfl) | (rw [if_neg (by decide +kernel)]; exact ⟨rfl, rfl⟩))
    (fun os started H enc _ => lifted os started H enc)

theorem proved : Rows.SirrunRecursionIsDeepCardSaid :=
  Claim7.holds_tied_plain_at .later [] [.data] true (true, "7214d98ae4d8f6f134295dcbcb4eafae30b3741b3e4c3b827d3dac806e496980") false
    row (fun _ h => by cases h) (by kernel_rfl) (fun _ h => by cases h) sirrunRecursionIsDeep_row_tie rfl ⟨rfl, rfl⟩ (by kernel_rfl) rfl
    (fun f fn hf hfn => by
      obtain rfl : f = 6 := Option.some.inj ((show Tryd.prog.funcNamed "spillframe/spillframelaw08.SirrunRecursionIsDeep" = some 6 by kernel_rfl).symm.trans hf) |>.symm
      obtain rfl : fn = Tryd.f6 := (Option.some.inj (Tryd.func6.symm.trans hfn)).symm
      exact ⟨by kernel_rfl, fun j t ht => by
        rw [Tryd.params6] at ht
        have hm : t ∈ [46] := by simpa using Array.mem_of_getElem? ht
        have hall : ([46].all fun u => !Tryd.prog.wantsStandIn u) = true := by kernel_rfl
        exact (show Tryd.prog.wantsStandIn t = false by simpa using List.all_eq_true.1 hall t hm)⟩)
    (by kernel_rfl)
end rowSirrunRecursionIsDeep
end Go.Proofs.YtipjeihfhnilcaaDoor
end
