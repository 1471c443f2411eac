import Derived.Test.YtebebodkgffkaaaDoorMZawk
set_option linter.unusedVariables false
set_option linter.unusedSimpArgs false
section
/-
  The law on deep recursion (chapter 8). Conditions: those of the types; the table of shapes lies as it is laid.
-/
namespace Go.Proofs.YtebebodkgffkaaaDoor
open Go.RowKit

def reF : Pg := [⟨0, [], [⟨22, 0, 0, 0, 0⟩, ⟨23, 0, 0, 0, 0⟩]⟩]
theorem re_pg : pgE reF = 0 := by decide
theorem re_imm : ImmF reF := by
  intro f hf x hx
  simp [reF] at hf
  subst hf
  simp at hx
  rcases hx with rfl | rfl <;> decide
theorem re_step {s : Mch} (hf : s.top.f = 0) (hp : s.top.pc = 0) : s.stepM reF = s.fetched.enter 0 := by
  have hn : s.next reF = ⟨22, 0, 0, 0, 0⟩ := by unfold Mch.next; rw [hf, hp]; rfl
  unfold Mch.stepM
  rw [hn]
  rfl
theorem enter_top (s : Mch) (f : Nat) : (s.enter f).top = ⟨f, 0, noC, noC⟩ := by
  unfold Mch.enter Mch.top
  simp
theorem re_iter : ∀ n : Nat, (iterM reF n (startM [])).ended = false ∧ (iterM reF n (startM [])).steps = n ∧ (iterM reF n (startM [])).depth = n + 1 ∧ (iterM reF n (startM [])).st.length = n + 1 ∧ (iterM reF n (startM [])).top.f = 0 ∧ (iterM reF n (startM [])).top.pc = 0 := by
  intro n
  induction n with
  | zero => exact ⟨rfl, rfl, rfl, rfl, rfl, rfl⟩
  | succ n ih =>
    obtain ⟨h1, h2, h3, h4, h5, h6⟩ := ih
    rw [iterM_succ, if_neg (by rw [h1]; decide), re_step h5 h6]
    generalize iterM reF n (startM []) = s at h1 h2 h3 h4 h5 h6
    have hl : s.fetched.st.length = n + 1 := by
      unfold Mch.fetched Mch.jump Mch.setTop
      simp [h4]
    refine ⟨h1, ?_, ?_, ?_, by rw [enter_top], by rw [enter_top]⟩
    · show s.steps + 1 = n + 1
      rw [h2]
    · show max s.depth (s.fetched.st.length + 1) = n + 1 + 1
      rw [hl, h3]; omega
    · show (s.fetched.st ++ [_]).length = n + 1 + 1
      rw [List.length_append, hl]; rfl
theorem re_run (n : Nat) : (runM reF [] n).kind = 4 ∧ (runM reF [] n).steps = n ∧ (runM reF [] n).depth = n + 1 := by
  obtain ⟨h1, h2, h3, _⟩ := re_iter n
  unfold runM Mch.fuelled
  rw [if_neg (by rw [h1]; decide)]
  exact ⟨rfl, h2, h3⟩
theorem re_runE (n : Nat) (h : n ≤ 100000) : runE reF (n : Int) = 0 := by
  unfold runE
  rw [if_neg (by rw [re_pg]; decide), if_pos (by omega)]
theorem re_runS (n : Nat) (h : n ≤ 100000) : runS reF [] (n : Int) = runM reF [] n := by
  unfold runS
  rw [if_pos (re_runE n h), Int.toNat_natCast]
set_option maxRecDepth 100000 in
set_option maxHeartbeats 4000000 in
theorem reclaw_walk (x : Int) (w : World) (hx0 : 0 ≤ x) (hx1 : x ≤ 65535) (hSh : Hid (Shapes w)) :
    Calls Tryd.prog 6 #[.int .u16 x] w fun e w' => e = .returned (.bool true) ∧ Below w.heap.size w w' := by
  obtain ⟨n, hn, hn3⟩ : ∃ n : Nat, Int.tmod x 300 = (n : Int) ∧ n < 300 := by
    rw [Int.tmod_eq_emod_of_nonneg hx0]
    exact ⟨(x % 300).toNat, by omega, by omega⟩
  go_enter Tryd.func6, Tryd.ntmps6
  go_wp2_with fail
  refine (awake8_any w hSh).mono ?_
  rintro e w1 ⟨rfl, hb1⟩
  have HB1 := hide hb1
  obtain ⟨W, hW⟩ : ∃ W, ((w1.alloc (.cells #[.int .i64 22, .int .i64 0, .int .i64 0, .int .i64 0, .int .u64 0, .int .i64 23, .int .i64 0, .int .i64 0, .int .i64 0, .int .u64 0] 48)).alloc (.cells #[.int .i64 0, .slice none 0 0, .slice (some ⟨w1.heap.size, 0, none⟩) 2 2] 52)).alloc (.cells #[.slice (some ⟨w1.heap.size + 1, 0, none⟩) 1 1] 26) = W := ⟨_, rfl⟩
  have HW := hide hW
  have hb := hide (show Below w1.heap.size w1 W by rw [← hW]; exact (below2 w1 _ _).alloc (below2 w1 _ _).size _)
  have sz1 : (w1.alloc (.cells #[.int .i64 22, .int .i64 0, .int .i64 0, .int .i64 0, .int .u64 0, .int .i64 23, .int .i64 0, .int .i64 0, .int .i64 0, .int .u64 0] 48)).heap.size = w1.heap.size + 1 := by simp
  have r0 := hide (show Row W w1.heap.size 48 (icells [⟨22, 0, 0, 0, 0⟩, ⟨23, 0, 0, 0, 0⟩]) by rw [← hW]; exact ((Row.new w1 _ (icells [⟨22, 0, 0, 0, 0⟩, ⟨23, 0, 0, 0, 0⟩])).alloc _).alloc _)
  have r1 := hide (show Row W (w1.heap.size + 1) 52 [.int .i64 0, .slice none 0 0, .slice (some ⟨w1.heap.size, 0, none⟩) 2 2] by
    rw [← hW]
    have := Row.new (w1.alloc (.cells #[.int .i64 22, .int .i64 0, .int .i64 0, .int .i64 0, .int .u64 0, .int .i64 23, .int .i64 0, .int .i64 0, .int .i64 0, .int .u64 0] 48)) 52 [.int .i64 0, .slice none 0 0, .slice (some ⟨w1.heap.size, 0, none⟩) 2 2]
    rw [sz1] at this
    exact this.alloc _)
  have r2 := hide (show Row W (w1.heap.size + 1 + 1) 26 [.slice (some ⟨w1.heap.size + 1, 0, none⟩) 1 1] by
    rw [← hW]
    have := Row.new ((w1.alloc (.cells #[.int .i64 22, .int .i64 0, .int .i64 0, .int .i64 0, .int .u64 0, .int .i64 23, .int .i64 0, .int .i64 0, .int .i64 0, .int .u64 0] 48)).alloc (.cells #[.int .i64 0, .slice none 0 0, .slice (some ⟨w1.heap.size, 0, none⟩) 2 2] 52)) 26 [.slice (some ⟨w1.heap.size + 1, 0, none⟩) 1 1]
    rw [show ((w1.alloc (.cells #[.int .i64 22, .int .i64 0, .int .i64 0, .int .i64 0, .int .u64 0, .int .i64 23, .int .i64 0, .int .i64 0, .int .i64 0, .int .u64 0] 48)).alloc (.cells #[.int .i64 0, .slice none 0 0, .slice (some ⟨w1.heap.size, 0, none⟩) 2 2] 52)).heap.size = w1.heap.size + 1 + 1 by simp] at this
    exact this)
  have hWs := r2.out.lt
  have hP := hide (one_pg (B := W.heap.size) r0.out.lt r1.out.lt 0 _ rfl (by decide) r0.out r1.out)
  have HSh := hide (hSh.out.below (hb1.trans (hb.out.mono hb1.size)))
  have cr := out_any reF [] (n : Int) none 0 0 W (hide re_imm) (hide (in_nil _ _)) (hide (fun v hv => by cases hv)) hP HSh
  have cd : ∀ w', Below W.heap.size W w' → Calls Tryd.prog 16 #[gv (some ⟨w1.heap.size + 1, 0, none⟩) 1 1, .slice none 0 0, .int .i64 (n : Int)] w' _ := fun w' hw' => depth_any reF [] (n : Int) none 0 0 w' (hide re_imm) (hide (in_nil _ _)) (hide (fun v hv => by cases hv)) (hide ((hP.out.below hw').more hw'.size (Nat.le_refl _))) (hide (HSh.out.below (hw'.mono (by have := hb.out.size; have := hb1.size; omega))))
  rw [re_runE n (by omega), re_runS n (by omega), (re_run n).2.2] at cd
  clear hW sz1
  go_wp2_with fail
  rw [HW.out]
  refine cr.mono ?_
  rintro e w2 ⟨vt, rfl, hto, hb2⟩
  have HY : (ocells (runS reF [] (n : Int)) vt).toArray = #[.int .i64 4, .int .u64 (runM reF [] n).code, .int .u64 (lo (runM reF [] n).res), .int .u64 (hi (runM reF [] n).res), vt, .int .i64 (n : Int)] := by rw [re_runS n (by omega)]; unfold ocells; rw [(re_run n).1, (re_run n).2.1]
  rw [HY, re_runE n (by omega)]
  generalize (runM reF [] n).code = C
  generalize lo (runM reF [] n).res = L
  generalize hi (runM reF [] n).res = R
  obtain ⟨W3, hst, RO, hb3⟩ := put_outcome w2 [.int .i64 4, .int .u64 C, .int .u64 L, .int .u64 R, vt, .int .i64 (n : Int)] rfl (outl_one (own_oneCell hto))
  have hb23 := hb2.trans (hb3.mono hb2.size)
  have p0 := (r2.out.below hb23 hWs).cell (k := 0) rfl
  have cd2 := cd W3 hb23
  clear cd cr HY hto hP r0 r1 HW hb2 hb3
  go_wp2_with (first | (refine wpList_store_whole 36 (.tmp 5) (.tmp 24) rfl rfl _ _ rfl rfl hst ?_) | fail)
  refine cd2.mono ?_
  rintro e w4 ⟨rfl, hb4⟩
  have RO4 := RO.call hb4
  have x0 := RO4.cell (k := 0) rfl
  have x5 := RO4.cell (k := 5) rfl
  have HB4 := hide (HB1.out.trans ((hb.out.trans ((hb23.trans (hb4.mono hb23.size)).mono hb.out.size)).mono HB1.out.size))
  rw [show ((n + 1 : Nat) : Int) = (n : Int) + 1 by omega]
  clear cd2 RO RO4 hb23 hb4 hb p0
  go_wp2_with fail
  exact bodyPost_ret (results_tmp rfl _ _ _) rfl ⟨rfl, HB4.out⟩
end Go.Proofs.YtebebodkgffkaaaDoor
end
