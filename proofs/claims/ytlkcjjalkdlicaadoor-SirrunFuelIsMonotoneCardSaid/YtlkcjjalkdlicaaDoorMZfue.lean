import Derived.Test.YtlkcjjalkdlicaaDoorMZste
import Derived.Test.YtlkcjjalkdlicaaDoorMZval
import Derived.Test.YtlkcjjalkdlicaaDoorMZstr
set_option linter.unusedVariables false
set_option linter.unusedSimpArgs false
section
/-
  SirrunFuelIsMonotone's law, walked: with more fuel the trace grows, a run that ended by itself stays. Conditions: those of the types; the table of shapes lies as it is laid.
-/
namespace Go.Proofs.YtlkcjjalkdlicaaDoor
open Go.RowKit

theorem tr_own {w : World} {base n c : Nat} {A : Option Addr} {l : List Nat} (h : w.ownsRow base 33 2 (.slice A n c) n (vcells l)) (hl : l.length = n) (hv : ∀ v ∈ l, v < two128) : TrAt w w.heap.size A n c l := by
  obtain ⟨A', c', e, hA, hc, _, hs⟩ := own_seen h
  injection e with e1 e2 e3
  subst e1 e3
  exact ⟨hl, hc, by have := own_cap h; omega, hA, hs, hv⟩
theorem vcells_take (l : List Nat) (k : Nat) : (vcells l).take (k * 2) = vcells (l.take k) := by
  induction l generalizing k with
  | nil => simp [vcells]
  | cons a s ih =>
    cases k with
    | zero => simp [vcells]
    | succ k =>
      have := ih k
      unfold vcells at this ⊢
      simp only [List.flatMap_cons, List.take_succ_cons]
      have h2 : (vcell a).length = 2 := rfl
      rw [List.take_append, h2, show (k + 1) * 2 - 2 = k * 2 by omega, this, List.take_of_length_le (by rw [h2]; omega)]
theorem tr_take {w : World} {B n c m : Nat} {A : Option Addr} {l : List Nat} (h : TrAt w B A n c l) (hm : m ≤ n) : TrAt w B A m c (l.take m) :=
  ⟨by rw [List.length_take, h.len]; omega, by have := h.cap; omega, by have := h.most; omega, h.nil_, by rw [← vcells_take]; exact h.see.take _, fun v hv => h.lt v (List.mem_of_mem_take hv)⟩
/-- What more fuel leaves, as the law asks it. -/
structure MoreF (a b : Mch) (N : Nat) : Prop where
  tr : a.trace.length ≤ b.trace.length
  st : a.steps ≤ b.steps
  mo : a.steps ≤ N
  ne : a.kind ≠ 4 → b = a
  eq : a.kind = 4 → a.steps = N
  pre : b.trace.take a.trace.length = a.trace
theorem moreF (F : Pg) (inp : List Nat) (N M : Nat) : MoreF (runM F inp N) (runM F inp (N + M)) N := by
  obtain ⟨l, hl⟩ := more_trace F inp N M
  exact ⟨by rw [hl, List.length_append]; omega, more_steps F inp N M, run_most F inp N, more_fuel F inp N M, fun h => (run_fuel h).1, by rw [hl, List.take_left]⟩

set_option maxRecDepth 100000 in
set_option maxHeartbeats 8000000 in
theorem fuelaw_walk (A0 : Option Addr) (n0 c0 : Nat) (zs : List Int) (mo : Int) (w : World)
    (hA : Hid (A0 = none → c0 = 0)) (hn : Hid (zs.length = n0)) (hnc : n0 ≤ c0) (hm : n0 ≤ 9223372036854775807) (hs : Hid (Sees w w.heap.size A0 (cellsU8 zs))) (hz : Hid (∀ z ∈ zs, 0 ≤ z ∧ z ≤ 255)) (m0 : 0 ≤ mo) (m1 : mo ≤ 255) (hSh : Hid (Shapes w)) :
    Calls Tryd.prog 3 #[.slice A0 n0 c0, .int .u8 mo] w fun e w' => e = .returned (.bool true) ∧ Below w.heap.size w w' := by
  obtain ⟨M, rfl⟩ : ∃ M : Nat, mo = (M : Int) := ⟨mo.toNat, by omega⟩
  go_enter Tryd.func3, Tryd.ntmps3
  go_wp2_with fail
  refine (awake8_any w hSh).mono ?_
  rintro e w1 ⟨rfl, hb1⟩
  have HB1 := hide hb1
  have HS1 := hide ((hs.out.below hb1).more hb1.size)
  have HSh1 := hide (hSh.out.below hb1)
  clear hb1
  go_wp2_with fail
  refine (scene_any A0 n0 c0 zs w1 hA hn hnc hm HS1 hz).mono ?_
  rintro e w2 ⟨A, n, c, hs2, F, Ai, ni, ci, inp, fu, lw, g, rfl, hpg, hE, him, hI, hIv, hfu, hb2⟩
  obtain ⟨f0, f1⟩ := hfu
  obtain ⟨N, rfl⟩ : ∃ N : Nat, fu = (N : Int) := ⟨fu.toNat, by omega⟩
  have hN : N ≤ 255 := by omega
  have hM : M ≤ 255 := by omega
  obtain ⟨W, hW⟩ : ∃ V, w2.alloc (.cells #[.slice A n c] 26) = V := ⟨_, rfl⟩
  have HW := hide hW
  have hb3 := below1 w2 (.cells #[.slice A n c] 26)
  rw [hW] at hb3
  obtain ⟨B, hB⟩ : ∃ B, w2.heap.size = B := ⟨_, rfl⟩
  have HBB := hide hB
  have RB := hide (show Row W B 26 [.slice A n c] by rw [← hW, ← hB]; exact Row.new w2 _ _)
  have HP := hide ((hpg.below hb3).more hb3.size (Nat.le_refl _))
  have HI := hide ((hI.below hb3).more hb3.size)
  have HSh := hide ((HSh1.out.below hb2).below hb3)
  have HBW := hide (HB1.out.trans ((hb2.trans (hb3.mono hb2.size)).mono HB1.out.size))
  have cr : ∀ (q : Nat) (wr : World), Hid (q ≤ 100000) → Hid (Below W.heap.size W wr) → Calls Tryd.prog 10 #[gv A n c, .slice Ai ni ci, .int .i64 (q : Int)] wr (fun e w' => ∃ (A1 : Option Addr) (c1 : Nat), e = .returned (.tuple #[.agg (ovl (runM F inp q).kind (runM F inp q).code (runM F inp q).res A1 (runM F inp q).trace.length c1 (runM F inp q).steps).toArray, .int .i64 0]) ∧ TrAt w' w'.heap.size A1 (runM F inp q).trace.length c1 (runM F inp q).trace ∧ Below wr.heap.size wr w') := fun q wr hq HBl => by
    refine (out_any F inp (q : Int) Ai ni ci wr (hide him) (hide ((HI.out.below HBl.out).more HBl.out.size)) (hide hIv) (hide ((HP.out.below HBl.out).more HBl.out.size (Nat.le_refl _))) (hide (HSh.out.below HBl.out))).mono ?_
    rintro e w' ⟨vt, rfl, hto, hb⟩
    rw [run_S hE inp q hq.out] at hto ⊢
    rw [run_E hE q hq.out]
    obtain ⟨A1, c1, rfl, -⟩ := own_seen hto
    exact ⟨A1, c1, rfl, tr_own hto rfl (run_vals hE him hIv q).t, hb⟩
  have VA := hide (run_vals hE him hIv N).r
  have VB := hide (run_vals hE him hIv (N + M)).r
  have MF := hide (moreF F inp N M)
  obtain ⟨a, ha⟩ : ∃ a, runM F inp N = a := ⟨_, rfl⟩
  obtain ⟨b, hb⟩ : ∃ b, runM F inp (N + M) = b := ⟨_, rfl⟩
  have ca := cr N
  have cb := cr (N + M)
  rw [ha] at ca VA MF
  rw [hb] at cb VB MF
  rw [show ((N + M : Nat) : Int) = (N : Int) + (M : Int) by omega] at cb
  clear hpg hE him hI hIv hb2 hb3 hW hB HSh1 HS1 HB1 ha hb HI HP HSh cr
  go_upto_region 4 with (fail)
  rw [HW.out, HBB.out]
  clear HW HBB
  have p0 := RB.out.cell (k := 0) rfl
  have ca1 := ca W (hide (by omega)) (hide (Below.refl _ _))
  go_wp2_with fail
  refine ca1.mono ?_
  rintro e w4 ⟨A1, c1, rfl, hta, hb4⟩
  obtain ⟨W3, hW3⟩ : ∃ V, w4.alloc (.cells #[.int .i64 a.kind, .int .u64 a.code, .int .u64 (lo a.res), .int .u64 (hi a.res), .slice A1 a.trace.length c1, .int .i64 (a.steps : Int)] 36) = V := ⟨_, rfl⟩
  have HW3 := hide hW3
  have hb5 : Below w4.heap.size w4 W3 := by rw [← hW3]; exact below1 _ _
  have B3 := hide (hb4.trans (hb5.mono hb4.size))
  have TA := hide (hta.call hb5)
  obtain ⟨ga, hga⟩ : ∃ g, w4.heap.size = g := ⟨_, rfl⟩
  have HGA := hide hga
  have RA := hide (show Row W3 ga 36 (ovl a.kind a.code a.res A1 a.trace.length c1 a.steps) by rw [← hga, ← hW3]; exact Row.new w4 _ _)
  have p1 := (RB.out.below B3.out RB.out.lt).cell (k := 0) rfl
  have cb1 := cb W3 (hide (by omega)) B3
  clear ca1 ca cb hta hb4 hb5 p0 hW3 hga
  go_upto_region 5 with (fail)
  rw [HW3.out, HGA.out]
  clear HW3 HGA
  go_wp2_with fail
  refine cb1.mono ?_
  rintro e w5 ⟨A2, c2, rfl, htb, hb6⟩
  obtain ⟨W5, hW5⟩ : ∃ V, w5.alloc (.cells #[.int .i64 b.kind, .int .u64 b.code, .int .u64 (lo b.res), .int .u64 (hi b.res), .slice A2 b.trace.length c2, .int .i64 (b.steps : Int)] 36) = V := ⟨_, rfl⟩
  have HW5 := hide hW5
  have hb7 : Below w5.heap.size w5 W5 := by rw [← hW5]; exact below1 _ _
  have hb67 := hb6.trans (hb7.mono hb6.size)
  have B5 := hide (below_call B3.out hb67)
  have TA5 := hide (TA.out.call hb67)
  have TB5 := hide (htb.call hb7)
  obtain ⟨gb, hgb⟩ : ∃ g, w5.heap.size = g := ⟨_, rfl⟩
  have HGB := hide hgb
  have RA5 := hide (RA.out.call hb67)
  have RB5 := hide (show Row W5 gb 36 (ovl b.kind b.code b.res A2 b.trace.length c2 b.steps) by rw [← hgb, ← hW5]; exact Row.new w5 _ _)
  clear cb1 htb hb6 hb7 hb67 TA RA B3 p1 hW5 hgb
  go_upto_region 6 with (fail)
  rw [HW5.out, HGB.out]
  clear HW5 HGB
  have x0 := RA5.out.cell (k := 0) rfl
  have x4 := RA5.out.cell (k := 4) rfl
  have x5 := RA5.out.cell (k := 5) rfl
  have y4 := RB5.out.cell (k := 4) rfl
  have y5 := RB5.out.cell (k := 5) rfl
  have q1 : (a.trace.length : Int) ≤ (b.trace.length : Int) := by have := MF.out.tr; omega
  have q2 : (a.steps : Int) ≤ (b.steps : Int) := by have := MF.out.st; omega
  have q3 : (a.steps : Int) ≤ (N : Int) := by have := MF.out.mo; omega
  by_cases hk : a.kind = 4
  · have hst : a.steps = N := MF.out.eq hk
    have hpre := hide MF.out.pre
    have hla : a.trace.length ≤ b.trace.length := MF.out.tr
    have hlc : b.trace.length ≤ c2 := TB5.out.cap
    have hlm := TB5.out.most
    rw [hk] at x0
    rw [hst] at x5 q2 q3
    have ct : ∀ p : After W5, Calls Tryd.prog 12 #[.slice A1 a.trace.length c1, .slice A2 a.trace.length c2] p.w fun e w' => e = .returned (.bool true) ∧ Below p.w.heap.size p.w w' := fun p => by
      have h := strace_any A1 a.trace.length c1 a.trace A2 a.trace.length c2 (b.trace.take a.trace.length) p.w.heap.size p.w (hide (TA5.out.call p.b)) (hide (tr_take (TB5.out.call p.b) hla)) (Nat.le_refl _)
      rw [hpre.out, decide_eq_true rfl] at h
      exact h
    have CT := hide ct
    have X4 := fun p : After W5 => after_cell x4 p
    have X5 := fun p : After W5 => after_cell x5 p
    have Y4 := fun p : After W5 => after_cell y4 p
    clear ct
    go_upto_region 10 with (fail)
    refine wp_region_after (by kernel_rfl) (by kernel_rfl) ?_
    repeat (go_big_quiet_step ((go_at_call 12; with_reducible exact after_of (CT.out _))))
    refine wpQuiet_nil ?_
    intro _ hw'
    obtain ⟨p2, hw''⟩ := hw'
    subst hw''
    have HF := hide (HBW.out.trans ((below_call B5.out p2.b).mono HBW.out.size))
    go_wp2_with fail
    go_ret
    exact ⟨rfl, HF.out⟩
  · have hba : b = a := MF.out.ne hk
    subst hba
    have hkb : (b.kind == 4) = false := by simpa using hk
    have cs := rsame_out b.kind b.code b.res A1 b.trace.length c1 b.trace b.steps b.kind b.code b.res A2 b.trace.length c2 b.trace b.steps W5 TA5 TB5 (by have := VA.out; exact this) (by have := VB.out; exact this)
    rw [show outB b.kind b.code b.res b.trace (b.steps : Int) b.kind b.code b.res b.trace (b.steps : Int) = true by simp [outB]] at cs
    have h1 := load_row (agg_outcome (w := W5)) (size_outcome (w := W5)) rfl RA5.out
    have h2 := load_row (agg_outcome (w := W5)) (size_outcome (w := W5)) rfl RB5.out
    go_upto_region 9 with (fail)
    go_wp2_with (first | (refine wpList_load_whole 36 (.tmp 9) rfl rfl _ _ rfl h1 ?_) | (refine wpList_load_whole 36 (.tmp 11) rfl rfl _ _ rfl h2 ?_) | fail)
    refine cs.mono ?_
    rintro e w6 ⟨rfl, hb8⟩
    have HF := hide (HBW.out.trans ((below_call B5.out hb8).mono HBW.out.size))
    go_wp2_with fail
    go_ret
    exact ⟨rfl, HF.out⟩
end Go.Proofs.YtlkcjjalkdlicaaDoor
end
