import Derived.Test.YtlhaendgdeflkaaGreatDoorMHf
set_option linter.unusedVariables false
set_option linter.unusedSimpArgs false
section
/-
  The program's slot (chapter 7): a slot more. Conditions: those of the types; ErrRange lies as it is laid.
-/
namespace Go.Proofs.YtlhaendgdeflkaaGreatDoor
open Go.RowKit

theorem last_cells {w : World} {lo g n c : Nat} {hs0 : List Hd} {h : Hd} (H : w.ownsRow lo 49 3 (.slice (some ⟨g, 0, none⟩) n c) n (hcells (hs0 ++ [h]))) :
    n = hs0.length + 1 ∧ w.cell? ⟨g, hs0.length * 3 + 1, none⟩ = some (.slice h.a1 h.n1 h.c1) ∧ w.cell? ⟨g, hs0.length * 3 + 2, none⟩ = some (.slice h.a2 h.n2 h.c2) ∧ ∀ j, w.frozen? ⟨g, j, none⟩ = false := by
  have hl := H.1
  rw [hcells_length, List.length_append] at hl
  simp only [List.length_cons, List.length_nil] at hl
  have hn : n = hs0.length + 1 := by omega
  refine ⟨hn, ?_, ?_, fun j => H.frozenAt j⟩
  · rw [H.cellAt _ (by omega), hcells_append, List.getElem?_append_right (by rw [hcells_length]; omega), hcells_length, Nat.add_sub_cancel_left]; rfl
  · rw [H.cellAt _ (by omega), hcells_append, List.getElem?_append_right (by rw [hcells_length]; omega), hcells_length, Nat.add_sub_cancel_left]; rfl
theorem off_own {w : World} {base e size n k c : Nat} {a : Option Addr} {xs : List Value} (h : w.ownsRow base e size (.slice a k c) n xs) {base' e' size' n' : Nat} {v' : Value} {xs' : List Value} (h' : w.ownsRow base' e' size' v' n' xs') (ht : e' ≠ e) : Off v'.ownBlock a := by
  cases hv : v'.ownBlock with
  | none => exact Off.none_ _
  | some g =>
    obtain ⟨cs, fr, hh⟩ := own_ty h' hv
    exact off_ty h hh ht
/-- The last function of a reader. -/
theorem Rdr.split {w : World} {lo b D n c : Nat} {A : Option Addr} {hs : List Hd} {F : Pg} {f : Fn} (H : Rdr w lo b D (.slice A n c) hs F) (hf : F.getLast? = some f) :
    ∃ g K hs0 F0 h, A = some ⟨g, 0, none⟩ ∧ hs = hs0 ++ [h] ∧ F = F0 ++ [f] ∧ n = hs0.length + 1 ∧ lo ≤ K ∧ K ≤ w.heap.size ∧ Old w lo K hs0 F0 ∧ FnOwn w K h f := by
  rcases H.fns with ⟨rfl, _⟩ | ⟨K, hs0, F0, h, f', rfl, rfl, h1, h2, h3, h4⟩
  · cases hf
  · have e : f' = f := by simpa using hf
    subst e
    have hn := own_n H.own
    have ho := H.own
    rw [hn] at ho
    obtain ⟨g, c', e1, _⟩ := own_block ho (by rw [← hn, List.length_append]; simp)
    injection e1 with e1 _ e2
    subst e1 e2
    exact ⟨g, K, hs0, F0, h, rfl, rfl, rfl, (last_cells ho).1, h1, h2, h3, h4⟩
/-- The error where no function is. -/
def lastU (F : Pg) (k : Fn → Int × Pg) : Int × Pg := match F.getLast? with
  | none => (10, F)
  | some f => k f
theorem last_nil {F : Pg} {k : Fn → Int × Pg} (h : F.getLast? = none) : lastU F k = (10, F) := by unfold lastU; rw [h]
theorem last_fn {F : Pg} {k : Fn → Int × Pg} {f : Fn} (h : F.getLast? = some f) : lastU F k = k f := by unfold lastU; rw [h]
theorem rd_same {lo b D n c : Nat} {A : Option Addr} {hs : List Hd} {F : Pg} {w w' : World} {x : Int} {r : Int × Pg} (H : Rdr w lo b D (.slice A n c) hs F) (hr : r = (x, F)) (hb : Below w.heap.size w w') (hlo : lo ≤ w.heap.size) : RdPost lo b D r w (.returned (.int .i64 x)) w' := by
  subst hr
  exact ⟨A, n, c, hs, rfl, H.below hb, hb.mono hlo⟩

set_option maxHeartbeats 4000000 in
set_option maxRecDepth 100000 in
theorem dslot_any (lo b D : Nat) (A : Option Addr) (n c : Nat) (hs : List Hd) (F : Pg) (Aw : Option Addr) (nw cw : Nat) (r : List (List UInt8)) (w : World) (H : Hid (Rdr w lo b D (.slice A n c) hs F)) (hlo : lo ≤ w.heap.size) (hS : Hid (Sees w w.heap.size Aw (wcells r))) (hn : Hid (r.length = nw)) (hlen : Hid (∀ x ∈ r, x.length ≤ 100000000)) (hnb : nw ≤ 100000001) (hR : Hid (ErrR w)) (hsm : SmallP 90000 F) :
    Calls Tryz.prog 45 #[.pointer (some ⟨D, 0, none⟩), .slice Aw nw cw] w (RdPost lo b D (lastU F fun f => slotU F f r) w) := by
  have HLO := hide hlo
  have HSM := hide hsm
  clear hlo hsm
  cases hf : F.getLast? with
  | none =>
    have hr := hide (last_nil (k := fun f => slotU F f r) hf)
    have hF : F = [] := by simpa using hf
    have hn0 : n = 0 := by have := own_n H.out.own; rw [hF] at this; exact this.symm
    subst hn0
    have cl := dlast_none D b c A w (hide H.out.row)
    clear hf hF
    go_enter Tryz.func45, Tryz.ntmps45
    go_wp2_with fail
    refine cl.mono ?_
    rintro e w1 ⟨rfl, hb1⟩
    have FIN := hide (rd_same H.out hr.out hb1 HLO.out)
    clear cl hb1
    go_wp2_with fail
    go_ret
    exact FIN.out
  | some f =>
    have hr := hide (last_fn (k := fun f => slotU F f r) hf)
    obtain ⟨g, K, hs0, F0, h, rfl, hhs, hFF, hnn, hK1, hK2, hold, hfn⟩ := H.out.split hf
    obtain ⟨k, hk⟩ : ∃ k, hs0.length = k := ⟨_, rfl⟩
    rw [hk] at hnn
    subst hnn
    have hk9 : k < 90001 := by have := H.out.own.1; have h2 := HSM.out.1; have h3 := own_n H.out.own; omega
    have cl := dlast_some D b g k c w (hide H.out.row) (by omega)
    have HHS := hide hhs; have HFF := hide hFF; have HK := hide hk; have HK1 := hide hK1; have HK2 := hide hK2; have HOLD := hide hold; have HFN := hide hfn; have HFL := hide hf
    have hN2 := hide hfn.l2
    have hsz := HSM.out.2 f (List.mem_of_getLast? hf)
    have HSZ := hide hsz
    clear hhs hFF hk hK1 hK2 hold hfn hf hsz
    obtain ⟨s0, si, sz0, sz1, sz2⟩ := info_parts Tryz.info52u
    go_enter Tryz.func45, Tryz.ntmps45
    go_wp2_with fail
    refine cl.mono ?_
    rintro e w1 ⟨rfl, hb1⟩
    have H1 := hide (H.out.below hb1)
    have HB1 := hide hb1
    have HOW1 : Hid (w1.ownsRow lo 49 3 (.slice (some ⟨g, 0, none⟩) (k + 1) c) (k + 1) (hcells (hs0 ++ [h]))) := hide (by
      have h1 := H1.out.own
      have h2 := own_n h1
      rw [h2, HHS.out] at h1
      exact h1)
    obtain ⟨-, q1, q2, -⟩ := last_cells HOW1.out
    rw [HK.out] at q1 q2
    clear cl hb1
    by_cases hc : f.code = []
    · have h2 : h.n2 = 0 := by rw [← hN2.out, hc]; rfl
      rw [h2] at q2
      have Q1 := hide q1
      have cn := numbers_any [110, 110] Aw nw cw r w1 w1.heap.size (Nat.le_refl _) (hide ((hS.out.below HB1.out).more HB1.out.size)) hn hlen (hide (by decide)) (by decide) hnb (hide (hR.out.below HB1.out))
      rw [← mkNN_let] at cn
      clear q1
      go_wp2_with fail
      refine cn.mono ?_
      rintro e w5 ⟨v5, rfl, ho5, hb5⟩
      have HB5 := hide hb5
      have HO5 := hide ho5
      clear hb5 ho5 cn q2
      by_cases hE : numsE mkNN r = 0
      · have o5 := HO5.out hE
        obtain ⟨z, hz1, hzv, hz0, hzb⟩ := numI_at hE (k := 0) (by simp [mkNN])
        obtain ⟨y, hy1, hyv, hy0, hyb⟩ := numI_at hE (k := 1) (by simp [mkNN])
        have hzb2 : z ≤ 2147483647 := by simp [mkNN, limU] at hzb; omega
        have hyb2 : y ≤ 2147483647 := by simp [mkNN, limU] at hyb; omega
        obtain ⟨g5, c5, rfl, -, hg5, hc5⟩ := num_cell o5 (by simp [mkNN])
        have y0 := hc5 0 z hz1
        have y1 := hc5 1 y hy1
        have HR := hide (show slotU F f r = (0, F0 ++ [⟨f.params, f.slots ++ [(z, y)], f.code⟩]) by unfold slotU; rw [if_neg (by simp [hc]), if_pos hE, hzv.out, hyv.out, HFF.out, List.dropLast_concat])
        have H5 := hide (show Rdr w5 lo b D (.slice (some ⟨g, 0, none⟩) (k + 1) c) (hs0 ++ [h]) (F0 ++ [f]) by have := H1.out.below HB5.out; rwa [HHS.out, HFF.out] at this)
        have HOW5 := hide (own_below HOW1.out HB5.out)
        have HFN5 := hide ((HFN.out.below HB1.out).below HB5.out)
        have HOLD5 := hide ((HOLD.out.below HB1.out).below HB5.out)
        have HBB := hide (below_step HB1.out HB5.out)
        have HKS := hide (show K ≤ w5.heap.size from Nat.le_trans HK2.out HBB.out.size)
        obtain ⟨-, a0, -, -⟩ := last_cells HOW5.out
        rw [HK.out] at a0
        have hgL := cell_lt a0
        have A0 := hide a0
        have a1 : ∀ o : Obj, (w5.alloc o).cell? ⟨g, k * 3 + 1, none⟩ = some (.slice h.a1 h.n1 h.c1) := fun o => (((Below.refl w5.heap.size w5).alloc (Nat.le_refl _) o).cell (p := ⟨g, k * 3 + 1, none⟩) hgL).trans A0.out
        have HM3 := hide (show h.n1 + 1 ≤ maxLen by have := HFN.out.l1; have := HSZ.out.1; unfold maxLen; omega)
        have HM4 := hide (show (h.n1 + 1) * 16 ≤ 140737488355328 by have := HFN.out.l1; have := HSZ.out.1; omega)
        have hwz : IntKind.i64.wrap z = z := by rw [IntKind.wrap_i64]; omega
        have hwy : IntKind.i64.wrap y = y := by rw [IntKind.wrap_i64]; omega
        have hg5s : g5 < w5.heap.size + 1 := by omega
        have hg5n : ¬ g5 = w5.heap.size := by omega
        have hml : mkNN.length = 2 := rfl
        have Y0 := hide y0
        have Y1 := hide y1
        have y2 : ∀ o : Obj, (w5.alloc o).cell? ⟨g5, 0, none⟩ = some (.int .u64 z) := fun o => (((Below.refl w5.heap.size w5).alloc (Nat.le_refl _) o).cell (p := ⟨g5, 0, none⟩) hg5).trans Y0.out
        have y3 : ∀ o : Obj, (w5.alloc o).cell? ⟨g5, 1, none⟩ = some (.int .u64 y) := fun o => (((Below.refl w5.heap.size w5).alloc (Nat.le_refl _) o).cell (p := ⟨g5, 1, none⟩) hg5).trans Y1.out
        rw [hE, hml]
        clear hE o5 hz1 hzv hzb hy1 hyv hyb hc5 hml hc
        go_upto_region 7 with (fail)
        go_region_law
          (refine wp_append_own _ (.tmp 32) (.tmp 42) 46 rfl K 52 s0 (.agg #[.int .i64 0, .int .i64 0]) 2 16 Tryz.underlying46 si sz0 sz1 sz2 rfl (by decide) (.slice h.a1 h.n1 h.c1) h.n1 (pcells f.slots) rfl (own_grownN HFN5.out.s ((grown_draws (World.grownBy.refl w5 none) 1).trans (World.grownBy_alloc _ _ _))) ⟨w5.heap.size, 0, none⟩ 1 1 [.int .i64 z, .int .i64 y] rfl rfl (fun j u hu => by rw [WideShapes.add_plain, Nat.zero_add]; exact (Row.new w5 52 [.int .i64 z, .int .i64 y]).cell hu) (pcells_oneCell [(z, y)]) HM3.out HM4.out (Nat.le_trans HKS.out (by simp)) ?_; intro v2 w7 ho2 hg2 _; have HG7 : Hid (w5.grownBy w7 (Value.slice h.a1 h.n1 h.c1).ownBlock) := hide (((grown_draws (World.grownBy.refl w5 _) 1).trans (World.grownBy_alloc _ _ _)).trans hg2); obtain ⟨A7, c7, rfl, hA7, hc7, hf7, -⟩ := own_seen ho2; have HLC := hide (last_cells (own_kept HOW5.out HG7.out (off_own HOW5.out HFN5.out.s (by decide)))); have p0 := HLC.out.2.1; rw [HK.out] at p0; have p1 := HLC.out.2.2.2 (k * 3 + 1))
        all_goals
          have fin := Rdr.last_set (j := hs0.length * 3 + 1) (u := .slice A7 (h.n1 + 1) c7) (f' := ⟨f.params, f.slots ++ [(z, y)], f.code⟩) H5.out HK1.out HKS.out HOLD5.out HG7.out (fun k hk => (HFN5.out.s.lt k hk).1)
            (fun k hk => by obtain ⟨cs, fr, hh⟩ := own_ty HFN5.out.s hk; exact ⟨cs, _, fr, hh, by decide, by decide⟩) (hset_last hs0 h A7 (h.n1 + 1) c7).1
            ⟨HFN5.out.p, by rw [List.length_append, HFN5.out.l1]; rfl, HFN5.out.l2, by rw [pcells_append]; exact ho2, own_kept HFN5.out.c HG7.out (off_own HFN5.out.c HFN5.out.s (by decide))⟩
          rw [HK.out] at fin
          have FIN := hide (show RdPost lo b D (lastU F fun f => slotU F f r) w (.returned (.int .i64 0)) (w7.setCell ⟨g, k * 3 + 1, none⟩ (.slice A7 (h.n1 + 1) c7)) from ⟨some ⟨g, 0, none⟩, k + 1, c, _, by rw [hr.out, HR.out], by rw [hr.out, HR.out]; exact fin.1, (HBB.out.mono HLO.out).trans fin.2⟩)
          clear hA7 hc7 hf7 ho2 hg2 fin p0 p1
          go_wp2_with fail
          go_ret
          exact FIN.out
      · have HR := hide (show slotU F f r = (numsE mkNN r, F) by unfold slotU; rw [if_neg (by simp [hc]), if_neg hE])
        obtain ⟨x, hx⟩ : ∃ x, numsE mkNN r = x := ⟨_, rfl⟩
        rw [hx] at hE HR ⊢
        have hb : (x == 0) = false := by rw [beq_eq_false_iff_ne]; exact hE
        have FIN := hide (rd_same H.out (hr.out.trans HR.out) (below_step HB1.out HB5.out) HLO.out)
        clear hE hx hc
        go_wp2_with fail
        go_ret
        exact FIN.out
    · have h2 : h.n2 ≠ 0 := fun e => hc (List.eq_nil_of_length_eq_zero (by rw [hN2.out]; exact e))
      have h2z : (0 : Int) < (h.n2 : Int) := by omega
      have HR := hide (show slotU F f r = (10, F) by unfold slotU; rw [if_pos hc])
      have FIN := hide (rd_same H.out (hr.out.trans HR.out) HB1.out HLO.out)
      clear hc
      go_wp2_with fail
      go_ret
      exact FIN.out
end Go.Proofs.YtlhaendgdeflkaaGreatDoor
end
