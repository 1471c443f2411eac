import Derived.Test.YtipjeihfhnilcaaDoorMZgo
import Derived.Test.YtipjeihfhnilcaaDoorMZscn
set_option linter.unusedVariables false
set_option linter.unusedSimpArgs false
section
/-
  The law package of chapter 8: awake. Conditions: those of the types; the table of shapes lies as it is laid.
-/
namespace Go.Proofs.YtipjeihfhnilcaaDoor
open Go.RowKit

def awF : Pg := [⟨0, [], [⟨0, 0, 0, 0, 5⟩, ⟨23, 0, 0, 0, 0⟩]⟩]
theorem aw_pg : pgE awF = 0 := by decide
theorem aw_run : runE awF 9 = 0 := by decide
theorem aw_steps : (runS awF [] 9).steps = 2 := by rfl
theorem aw_res : lo (runS awF [] 9).res = 5 := by rfl
theorem aw_imm : ImmF awF := by
  intro f hf x hx
  simp [awF] at hf
  subst hf
  simp at hx
  rcases hx with rfl | rfl <;> decide
theorem in_nil (w : World) (B : Nat) : InAt w B (.slice none 0 0) [] := ⟨none, 0, 0, rfl, rfl, Nat.le_refl _, by omega, fun _ => rfl, Sees.nil_ _ _ _⟩
theorem zcap_none : Cap none 0 0 := ⟨fun _ => rfl, Nat.le_refl _, by omega⟩
theorem zcap_some {n c : Nat} (a : Addr) (h : n ≤ c) (h' : n ≤ 8796093022208) : Cap (some a) n c := ⟨(fun e => by cases e), h, h'⟩
/-- A function without slots whose code lies in a block of its own. -/
theorem code_hd {w : World} {E B n : Nat} (hE : E < B) (p : Int) (l : List Ins) (hn : l.length = n) (hl : n ≤ 8796093022208) (r : Row w E 48 (icells l)) : HdAt w 0 B ⟨p, none, 0, 0, some ⟨E, 0, none⟩, n, n⟩ ⟨p, [], l⟩ :=
  ⟨rfl, rfl, hn, zcap_none, zcap_some _ (Nat.le_refl _) hl, Far.zero _, Far.zero _, Sees.nil_ _ _ _, fun k u hu => ⟨E, 0, rfl, hE, by rw [Nat.zero_add]; exact r.cell hu⟩⟩
/-- A program of one such function. -/
theorem one_pg {w : World} {E G B n : Nat} (hE : E < B) (hG : G < B) (p : Int) (l : List Ins) (hn : l.length = n) (hl : n ≤ 8796093022208) (r : Row w E 48 (icells l)) (q : Row w G 52 [.int .i64 p, .slice none 0 0, .slice (some ⟨E, 0, none⟩) n n]) :
    PgAt w 0 B (some ⟨G, 0, none⟩) 1 1 [⟨p, none, 0, 0, some ⟨E, 0, none⟩, n, n⟩] [⟨p, [], l⟩] :=
  ⟨rfl, zcap_some _ (Nat.le_refl _) (by omega), Far.zero _, fun k u hu => ⟨G, 0, rfl, hG, by rw [Nat.zero_add]; exact q.cell hu⟩, ⟨rfl, fun j h f h1 h2 => by
    rcases j with _ | j
    · injection h1 with h1; injection h2 with h2
      subst h1; subst h2
      exact code_hd hE p l hn hl r
    · simp at h1⟩⟩
/-- An outcome stored into a new block. -/
theorem put_outcome (w2 : World) (vs : List Value) (hl : vs.length = 6) (h1 : ∀ v ∈ vs, v.oneCell' = true) :
    ∃ W3, (Instr.storeAt 36 (.pointer (some ⟨w2.heap.size, 0, none⟩)) (.agg vs.toArray)).run Tryd.prog (w2.alloc (.cells #[.int .i64 0, .int .u64 0, .int .u64 0, .int .u64 0, .slice none 0 0, .int .i64 0] 36)) = .ok () W3 ∧ Row W3 w2.heap.size 36 vs ∧ Below w2.heap.size w2 W3 := by
  have R := Row.new w2 36 [.int .i64 0, .int .u64 0, .int .u64 0, .int .u64 0, .slice none 0 0, .int .i64 0]
  exact ⟨_, store_row size_outcome hl rfl h1 R, set_row_row R, (below1 w2 _).grown (set_row_grown _ _ _) (Nat.le_of_lt R.lt) (fun k hk => by injection hk with hk; omega)⟩
theorem outl_one {K C L R S : Int} {vt : Value} (h : vt.oneCell' = true) : ∀ v ∈ ([.int .i64 K, .int .u64 C, .int .u64 L, .int .u64 R, vt, .int .i64 S] : List Value), v.oneCell' = true := by
  intro v hv
  simp only [List.mem_cons, List.not_mem_nil, or_false] at hv
  rcases hv with rfl | rfl | rfl | rfl | rfl | rfl <;> first | rfl | assumption
set_option maxRecDepth 100000 in
set_option maxHeartbeats 4000000 in
theorem awake8_any (w : World) (hSh : Hid (Shapes w)) :
    Calls Tryd.prog 8 #[] w fun e w' => e = .returned (.bool true) ∧ Below w.heap.size w w' := by
  obtain ⟨W, hW⟩ : ∃ W, (w.alloc (.cells #[.int .i64 0, .int .i64 0, .int .i64 0, .int .i64 0, .int .u64 5, .int .i64 23, .int .i64 0, .int .i64 0, .int .i64 0, .int .u64 0] 48)).alloc (.cells #[.int .i64 0, .slice none 0 0, .slice (some ⟨w.heap.size, 0, none⟩) 2 2] 52) = W := ⟨_, rfl⟩
  have HW := hide hW
  have hb := hide (show Below w.heap.size w W by rw [← hW]; exact below2 w _ _)
  clear hW
  go_enter Tryd.func8, Tryd.ntmps8
  go_wp2_with fail
  rw [HW.out]
  have r0 := hide (show Row W w.heap.size 48 (icells [⟨0, 0, 0, 0, 5⟩, ⟨23, 0, 0, 0, 0⟩]) by rw [← HW.out]; exact (Row.new w _ (icells [⟨0, 0, 0, 0, 5⟩, ⟨23, 0, 0, 0, 0⟩])).alloc _)
  have r1 := hide (show Row W (w.heap.size + 1) 52 [.int .i64 0, .slice none 0 0, .slice (some ⟨w.heap.size, 0, none⟩) 2 2] by
    rw [← HW.out]
    have := Row.new (w.alloc (.cells #[.int .i64 0, .int .i64 0, .int .i64 0, .int .i64 0, .int .u64 5, .int .i64 23, .int .i64 0, .int .i64 0, .int .i64 0, .int .u64 0] 48)) 52 [.int .i64 0, .slice none 0 0, .slice (some ⟨w.heap.size, 0, none⟩) 2 2]
    rw [show (w.alloc (.cells #[.int .i64 0, .int .i64 0, .int .i64 0, .int .i64 0, .int .u64 5, .int .i64 23, .int .i64 0, .int .i64 0, .int .i64 0, .int .u64 0] 48)).heap.size = w.heap.size + 1 by simp] at this
    exact this)
  have hP := one_pg (B := W.heap.size) r0.out.lt r1.out.lt 0 _ rfl (by decide) r0.out r1.out
  refine (out_any awF [] 9 none 0 0 W (hide aw_imm) (hide (in_nil _ _)) (hide (fun v hv => by cases hv)) (hide hP) (hide (hSh.out.below hb.out))).mono ?_
  rintro e w2 ⟨vt, rfl, hto, hb2⟩
  have HB := hide (hb.out.trans (hb2.mono hb.out.size))
  have HY : (ocells (runS awF [] 9) vt).toArray = #[.int .i64 (runS awF [] 9).kind, .int .u64 (runS awF [] 9).code, .int .u64 5, .int .u64 (hi (runS awF [] 9).res), vt, .int .i64 2] := by unfold ocells; rw [aw_res, aw_steps]; rfl
  rw [HY, aw_run]
  generalize (runS awF [] 9).kind = K
  generalize (runS awF [] 9).code = C
  generalize hi (runS awF [] 9).res = R
  obtain ⟨W3, hst, RO, hb3⟩ := put_outcome w2 [.int .i64 K, .int .u64 C, .int .u64 5, .int .u64 R, vt, .int .i64 2] rfl (outl_one (own_oneCell hto))
  have x2 := RO.cell (k := 2) rfl
  have x5 := RO.cell (k := 5) rfl
  have HB3 := hide (HB.out.trans (hb3.mono HB.out.size))
  clear HY hto hP r0 r1 hb hb2 HW RO hb3
  go_wp2_with (first | (refine wpList_store_whole 36 (.tmp 1) (.tmp 11) rfl rfl _ _ rfl rfl hst ?_) | fail)
  exact bodyPost_ret (results_tmp rfl _ _ _) rfl ⟨rfl, HB3.out⟩
end Go.Proofs.YtipjeihfhnilcaaDoor
end

section
/-
  SirrunEqualsStepByStep's law, walked: one more unit of fuel is one more step. Conditions: those of the types; the table of shapes lies as it is laid.
-/
namespace Go.Proofs.YtipjeihfhnilcaaDoor
open Go.RowKit

theorem run_step {F : Pg} {inp : List Nat} {i : Nat} (h : ∀ j < i, (runM F inp j).kind = 4) : (runM F inp i).steps = i := by
  by_cases hk : (runM F inp i).kind = 4
  · exact (run_fuel hk).1
  · cases i with
    | zero => exact absurd (run_zero F inp).1 hk
    | succ i => exact one_more (h i (by omega)) hk
theorem run_E {F : Pg} (h : pgE F = 0) (n : Nat) (hn : n ≤ 100000) : runE F (n : Int) = 0 := by
  unfold runE
  rw [if_neg (by rw [h]; decide), if_pos (by omega)]
theorem run_S {F : Pg} (h : pgE F = 0) (inp : List Nat) (n : Nat) (hn : n ≤ 100000) : runS F inp (n : Int) = runM F inp n := by
  unfold runS
  rw [if_pos (run_E h n hn), Int.toNat_natCast]

set_option maxRecDepth 100000 in
set_option maxHeartbeats 4000000 in
theorem stelaw_walk (A0 : Option Addr) (n0 c0 : Nat) (zs : List Int) (w : World)
    (hA : Hid (A0 = none → c0 = 0)) (hn : Hid (zs.length = n0)) (hnc : n0 ≤ c0) (hm : n0 ≤ 9223372036854775807) (hs : Hid (Sees w w.heap.size A0 (cellsU8 zs))) (hz : Hid (∀ z ∈ zs, 0 ≤ z ∧ z ≤ 255)) (hSh : Hid (Shapes w)) :
    Calls Tryd.prog 4 #[.slice A0 n0 c0] w fun e w' => e = .returned (.bool true) ∧ Below w.heap.size w w' := by
  go_enter Tryd.func4, Tryd.ntmps4
  go_wp2_with fail
  refine (awake8_any w hSh).mono ?_
  rintro e w1 ⟨rfl, hb1⟩
  have HB1 := hide hb1
  have HS1 := hide ((hs.out.below hb1).more hb1.size)
  have HSh1 := hide (hSh.out.below hb1)
  clear hb1
  go_wp2_with fail
  refine (scene_any A0 n0 c0 zs w1 hA hn hnc hm HS1 hz).mono ?_
  rintro e w2 ⟨A, n, c, hs2, F, Ai, ni, ci, inp, fu, lw, g, rfl, hpg, hE, him, hI, hIv, hfu, hb2⟩
  obtain ⟨W, hW⟩ : ∃ V, w2.alloc (.cells #[.slice A n c] 26) = V := ⟨_, rfl⟩
  have HW := hide hW
  have hb3 := below1 w2 (.cells #[.slice A n c] 26)
  rw [hW] at hb3
  obtain ⟨B, hB⟩ : ∃ B, w2.heap.size = B := ⟨_, rfl⟩
  have HBB := hide hB
  have RB := hide (show Row W B 26 [.slice A n c] by rw [← hW, ← hB]; exact Row.new w2 _ _)
  have HP := hide ((hpg.below hb3).more hb3.size (Nat.le_refl _))
  have HI := hide ((hI.below hb3).more hb3.size)
  have HIv := hide hIv
  have HIm := hide him
  have HE := hide hE
  have HSh := hide ((HSh1.out.below hb2).below hb3)
  have HBW := hide (HB1.out.trans ((hb2.trans (hb3.mono hb2.size)).mono HB1.out.size))
  clear hpg hE him hI hIv hfu hb2 hb3 hW hB HSh1 HS1 HB1
  go_upto_region 4 with (fail)
  rw [HW.out, HBB.out]
  clear HW HBB
  go_wp2_with fail
  go_loopw [7, 8, 9] (fun iv _ _ wr => ∃ i : Nat, i ≤ 60 ∧ iv = .int .i64 (i : Int) ∧ Hid (Below W.heap.size W wr) ∧ Hid (∀ j < i, (runM F inp j).kind = 4)) (fun iv _ _ _ => 60 - (intOf iv).toNat)
  case atStart => exact ⟨0, Nat.zero_le _, rfl, hide (Below.refl _ _), hide (fun j hj => by omega)⟩
  case round =>
    obtain ⟨i, hil, rfl, HBl, HK⟩ := hrel
    by_cases hlt : i < 60
    · have hlz : (i : Int) < 60 := by omega
      have hiz : (0 : Int) ≤ (i : Int) := by omega
      have p0 := (RB.out.below HBl.out RB.out.lt).cell (k := 0) rfl
      have cr := out_any F inp (i : Int) Ai ni ci wr HIm (hide ((HI.out.below HBl.out).more HBl.out.size)) HIv (hide ((HP.out.below HBl.out).more HBl.out.size (Nat.le_refl _))) (hide (HSh.out.below HBl.out))
      have HST := hide (run_step HK.out)
      go_wp2_with fail
      refine cr.mono ?_
      rintro e w4 ⟨vt, rfl, hto, hb4⟩
      have HY : (ocells (runS F inp (i : Int)) vt).toArray = #[.int .i64 (runM F inp i).kind, .int .u64 (runM F inp i).code, .int .u64 (lo (runM F inp i).res), .int .u64 (hi (runM F inp i).res), vt, .int .i64 (i : Int)] := by rw [run_S HE.out inp i (by omega)]; unfold ocells; rw [HST.out]
      rw [HY, run_E HE.out i (by omega)]
      have HK2 := hide (show ∀ K, (runM F inp i).kind = K → K = 4 → ∀ j < i + 1, (runM F inp j).kind = 4 from fun K hK h4 j hj => by
        by_cases hji : j < i
        · exact HK.out j hji
        · obtain rfl : j = i := by omega
          rw [hK]; exact h4)
      have HZ := hide (show ∀ K, (runM F inp i).kind = K → K ≠ 4 → i ≠ 0 from fun K hK h4 h0 => by
        subst h0
        exact h4 (by rw [← hK]; exact (run_zero F inp).1))
      obtain ⟨K, hK⟩ : ∃ K, (runM F inp i).kind = K := ⟨_, rfl⟩
      have HK3 := hide (HK2.out K hK)
      have HZ3 := hide (HZ.out K hK)
      rw [hK]
      generalize (runM F inp i).code = C
      generalize lo (runM F inp i).res = L
      generalize hi (runM F inp i).res = R
      obtain ⟨W3, hst, RO, hb5⟩ := put_outcome w4 [.int .i64 K, .int .u64 C, .int .u64 L, .int .u64 R, vt, .int .i64 (i : Int)] rfl (outl_one (own_oneCell hto))
      have x0 := RO.cell (k := 0) rfl
      have x5 := RO.cell (k := 5) rfl
      have HB3 := hide (HBl.out.trans ((hb4.trans (hb5.mono hb4.size)).mono HBl.out.size))
      clear HY hto RO hb4 hb5 cr HK2 HZ hK HST p0
      by_cases hk4 : K = 4
      · have HK5 := hide (HK3.out hk4)
        subst hk4
        clear HK3 HZ3
        go_wp2_with (first | (refine wpList_store_whole 36 (.tmp 8) (.tmp 28) rfl rfl _ _ rfl rfl hst ?_) | fail)
        go_roundw
        case rel => exact ⟨i + 1, by omega, by go_num, HB3, HK5⟩
        case measure => simp [intOf]; omega
      · have hi0 := HZ3.out hk4
        have hiz2 : ¬ ((i : Int) = 0) := by omega
        have kk : (K == 4) = false := by simpa using hk4
        have HF := hide (HBW.out.trans (HB3.out.mono HBW.out.size))
        clear HK3 HZ3
        go_wp2_with (first | (refine wpList_store_whole 36 (.tmp 8) (.tmp 28) rfl rfl _ _ rfl rfl hst ?_) | fail)
        exact bodyPost_ret (results_tmp rfl _ _ _) rfl ⟨rfl, HF.out⟩
    · have hi2 : i = 60 := by omega
      subst hi2
      have HF := hide (HBW.out.trans (HBl.out.mono HBW.out.size))
      go_wp2_with fail
      go_ret
      exact ⟨rfl, HF.out⟩
end Go.Proofs.YtipjeihfhnilcaaDoor
end
