import Derived.Test.YtlcmcmocjbeocaaGreatDoorMJrdm
set_option linter.unusedVariables false
set_option linter.unusedSimpArgs false
section
/-
  The reference's PutInstr. Conditions: those of the types.
-/
namespace Go.Proofs.YtlcmcmocjbeocaaGreatDoor
open Go.RowKit

set_option maxRecDepth 100000 in
set_option maxHeartbeats 4000000 in
theorem rputi_aaa (A : Option Addr) (n c : Nat) (zs : List Int) (o a p d m : Int) (B : Nat) (w : World) (hA : Hid (A = none → c = 0)) (hnc : Hid (n ≤ c)) (hn : Hid (zs.length = n)) (hm : n ≤ 1073741824) (hs : Hid (Sees w B A (cellsU8 zs))) (hB : Hid (B ≤ w.heap.size)) (h0 : 0 ≤ o) (h1 : o ≤ 255) (ha : 0 ≤ a ∧ a ≤ 2147483647) (hp : 0 ≤ p ∧ p ≤ 2147483647) (hd : 0 ≤ d ∧ d ≤ 2147483647) (hi : 0 ≤ m ∧ m ≤ 18446744073709551615) :
    Calls Tryz.prog 40 #[.slice A n c, iv o a p d m, .bool true, .bool true, .bool true, .bool false] w fun e w' => ∃ r l, e = .returned r ∧ l = n + 1 + (opsY true true true false ⟨o, a, p, d, m⟩).length ∧ w'.ownsRow w.heap.size 5 1 r l (cellsU8 (zs ++ (o :: opsY true true true false ⟨o, a, p, d, m⟩))) ∧ Below w.heap.size w w' := by
  obtain ⟨i0, hi', hz0, hz1, hz2⟩ := info_parts Tryz.info5
  have hl0 := hn.out
  obtain ⟨W, hW⟩ : ∃ W, w.alloc (.cells #[.int .i64 o, .int .i64 a, .int .i64 p, .int .i64 d, .int .u64 m] 64) = W := ⟨_, rfl⟩
  have HW := hide hW
  have rx := hide (show Row W w.heap.size 64 [.int .i64 o, .int .i64 a, .int .i64 p, .int .i64 d, .int .u64 m] by rw [← hW]; exact Row.new w _ _)
  have hbW := hide (show Below w.heap.size w W by rw [← hW]; exact below1 w _)
  have hsW := hide (show Sees W W.heap.size A (cellsU8 zs) by rw [← hW]; exact (hs.out.alloc hB.out _).more (by have := hB.out; simp; omega))
  have hWs : w.heap.size + 1 = W.heap.size := by rw [← hW]; simp
  clear hW
  have HCL := hide (show (cellsU8 zs).length = n * 1 by have := hn.out; simp [cellsU8]; omega)
  have y0 := rx.out.cell (k := 0) rfl
  have y0' : ∀ ob : Obj, (W.alloc ob).cell? ⟨w.heap.size, 0, none⟩ = some (.int .i64 o) := fun ob => (rx.out.alloc ob).cell (k := 0) rfl
  have ho256 : IntKind.u8.wrap o = o := by rw [IntKind.wrap_u8']; omega
  have hwa : IntKind.u64.wrap a = a := wrap_u64_in _ (by omega) (by omega)
  have hwp : IntKind.u64.wrap p = p := wrap_u64_in _ (by omega) (by omega)
  have hwd : IntKind.u64.wrap d = d := wrap_u64_in _ (by omega) (by omega)
  have hwl : W.heap.size = W.heap.size := rfl
  go_enter Tryz.func40, Tryz.ntmps40
  go_upto_region 1 with (fail)
  rw [HW.out]
  clear HW
  go_region_law
    (first
      | (refine wp_append_seesN (.const (.slice none 0 0)) (.tmp 13) 22 rfl W.heap.size 5 i0 (.int .u8 0) 1 1 Tryz.underlying22 hi' hz0 hz1 hz2 rfl (by decide) (.slice none 0 0) 0 [] rfl (World.ownsRow_nil _ _ _ _) W.heap.size A n c (cellsU8 zs) rfl hA HCL (hide (hsW.out.draws 1)) hnc (one_u8 _) (by unfold maxLen; omega) (by omega) (Nat.le_refl _) ?_; intro v1 w5 ho1 hg1; have hG1 : W.grownBy w5 none := (grown_draws (World.grownBy.refl W none) 1).trans hg1; have s20 := (rx.out.grown hG1 (fun e => by cases e)).cell (k := 0) rfl)
      | (refine wp_append_seesN (.const (.slice none 0 0)) (.tmp 13) 22 rfl W.heap.size 5 i0 (.int .u8 0) 1 1 Tryz.underlying22 hi' hz0 hz1 hz2 rfl (by decide) (.slice none 0 0) 0 [] rfl (World.ownsRow_nil _ _ _ _) W.heap.size A n c (cellsU8 zs) rfl hA HCL (hide ((hsW.out.draws 1).alloc (Nat.le_refl _) _)) hnc (one_u8 _) (by unfold maxLen; omega) (by omega) (by simp) ?_; intro v1 w5 ho1 hg1; have hG1 : W.grownBy w5 none := ((grown_draws (World.grownBy.refl W none) 1).trans (World.grownBy_alloc _ _ _)).trans hg1; have hN1 := ((Row.new (W.drewN 1) 5 [.int .u8 o]).at_ (g' := W.heap.size) rfl).grown hg1 (fun e => by cases e))
      | (refine wp_append_own _ (.tmp 14) (.tmp 18) 22 rfl W.heap.size 5 i0 (.int .u8 0) 1 1 Tryz.underlying22 hi' hz0 hz1 hz2 rfl (by decide) v1 (0 + n) ([] ++ cellsU8 zs) rfl (ho1.alloc _) ⟨w5.heap.size, 0, none⟩ 1 1 [.int .u8 o] rfl rfl (one_new _ _ _) (one_byte _) (by unfold maxLen; omega) (by omega) (by have := hG1.size; simp; omega) ?_; intro v2 w6 ho2 hg2 _; have HG6 : Hid (W.grownBy w6 none) := hide ((hG1.trans (World.grownBy_alloc _ _ _)).andThen hg2 (fun k hk => .inl (ho1.lt k hk).1)); obtain ⟨A6, c6, rfl, hA6, hc6, hf6, hs6⟩ := own_seen ho2)
      | (refine wp_append_own _ (.tmp 14) (.tmp 18) 22 rfl W.heap.size 5 i0 (.int .u8 0) 1 1 Tryz.underlying22 hi' hz0 hz1 hz2 rfl (by decide) v1 (0 + n) ([] ++ cellsU8 zs) rfl ho1 ⟨W.heap.size, 0, none⟩ 1 1 [.int .u8 o] rfl rfl (fun j u hu => by rw [WideShapes.add_plain, Nat.zero_add]; exact hN1.cell hu) (one_byte _) (by unfold maxLen; omega) (by omega) hG1.size ?_; intro v2 w6 ho2 hg2 _; have HG6 : Hid (W.grownBy w6 none) := hide (hG1.andThen hg2 (fun k hk => .inl (ho1.lt k hk).1)); obtain ⟨A6, c6, rfl, hA6, hc6, hf6, hs6⟩ := own_seen ho2))
  all_goals
    simp only [Nat.zero_add] at ho2
    have hb6 := hide (show Below w.heap.size w w6 from hbW.out.grown HG6.out hbW.out.size (fun k hk => by cases hk))
    have rx0 := hide (rx.out.grown HG6.out (fun e => by cases e))
    have O0 := hide (show w6.ownsRow (w.heap.size + 1) 5 1 (.slice A6 (n + 1) c6) (n + 1) (cellsU8 (zs ++ [o])) by rw [cellsU8_app, hWs]; exact ho2)
    have hA0 := hide hA6
    clear ho2 hg2 ho1 hg1 hG1 hc6 hf6 hs6 hA6 y0 y0'
    have g1 := rx0.out.cell (k := 1) rfl
    have l10_1 := lenv_le a.toNat (by omega)
    go_wp2_with fail
    refine (refput_any A6 (n + 1) c6 (zs ++ [o]) a w6.heap.size w6 hA0 (hide (by have := own_len O0.out; simpa [cellsU8] using this)) (by omega) (Sees.own O0.out) (by omega) (by omega)).mono ?_
    rintro e wq1 ⟨r1, rfl, hoq, hbq⟩
    obtain ⟨Aq1, cq1, rfl, haq, -, -, -⟩ := own_seen hoq
    have hs1 := hb6.out.size
    have hss1 := hbq.size
    have Oq1 := hide (own_less hoq (show w.heap.size + 1 ≤ w6.heap.size by have := rx0.out.lt; omega))
    have aq1 := hide haq
    have rq1 := hide (rx0.out.call hbq)
    have bq1 := hide (hb6.out.trans (hbq.mono hb6.out.size))
    clear hoq hbq haq g1
    have g2 := rq1.out.cell (k := 2) rfl
    have l10_2 := lenv_le p.toNat (by omega)
    go_wp2_with fail
    refine (refput_any Aq1 (n + 1 + lenv a.toNat) cq1 ((zs ++ [o]) ++ digsI a.toNat) p wq1.heap.size wq1 aq1 (hide (by have := own_len Oq1.out; simpa [cellsU8] using this)) (by omega) (Sees.own Oq1.out) (by omega) (by omega)).mono ?_
    rintro e wq2 ⟨r2, rfl, hoq, hbq⟩
    obtain ⟨Aq2, cq2, rfl, haq, -, -, -⟩ := own_seen hoq
    have hs2 := bq1.out.size
    have hss2 := hbq.size
    have Oq2 := hide (own_less hoq (show w.heap.size + 1 ≤ wq1.heap.size by have := rq1.out.lt; omega))
    have aq2 := hide haq
    have rq2 := hide (rq1.out.call hbq)
    have bq2 := hide (bq1.out.trans (hbq.mono bq1.out.size))
    clear hoq hbq haq g2
    have g3 := rq2.out.cell (k := 3) rfl
    have l10_3 := lenv_le d.toNat (by omega)
    go_wp2_with fail
    refine (refput_any Aq2 (n + 1 + lenv a.toNat + lenv p.toNat) cq2 (((zs ++ [o]) ++ digsI a.toNat) ++ digsI p.toNat) d wq2.heap.size wq2 aq2 (hide (by have := own_len Oq2.out; simpa [cellsU8] using this)) (by omega) (Sees.own Oq2.out) (by omega) (by omega)).mono ?_
    rintro e wq3 ⟨r3, rfl, hoq, hbq⟩
    obtain ⟨Aq3, cq3, rfl, haq, -, -, -⟩ := own_seen hoq
    have hs3 := bq2.out.size
    have hss3 := hbq.size
    have Oq3 := hide (own_less hoq (show w.heap.size + 1 ≤ wq2.heap.size by have := rq2.out.lt; omega))
    have aq3 := hide haq
    have rq3 := hide (rq2.out.call hbq)
    have bq3 := hide (bq2.out.trans (hbq.mono bq2.out.size))
    clear hoq hbq haq g3
    have FIN := hide (show wq3.ownsRow w.heap.size 5 1 (.slice Aq3 (n + 1 + lenv a.toNat + lenv p.toNat + lenv d.toNat) cq3) (n + 1 + lenv a.toNat + lenv p.toNat + lenv d.toNat) (cellsU8 (zs ++ (o :: opsY true true true false ⟨o, a, p, d, m⟩))) by
      rw [show zs ++ (o :: opsY true true true false ⟨o, a, p, d, m⟩) = ((((zs ++ [o]) ++ digsI a.toNat) ++ digsI p.toNat) ++ digsI d.toNat) by simp [opsY, optY]]
      exact own_less Oq3.out (by omega))
    have HB := hide bq3.out
    have HLL := hide (show n + 1 + lenv a.toNat + lenv p.toNat + lenv d.toNat = n + 1 + (opsY true true true false ⟨o, a, p, d, m⟩).length by simp [opsY, optY, digsI_length]; try omega)
    go_wp2
    go_ret
    first
      | exact ⟨_, _, rfl, HLL.out, FIN.out, HB.out⟩
      | exact ⟨_, rfl, by rw [← HLL.out]; exact FIN.out, HB.out⟩

set_option maxRecDepth 100000 in
set_option maxHeartbeats 4000000 in
theorem rputi_aa (A : Option Addr) (n c : Nat) (zs : List Int) (o a p d m : Int) (B : Nat) (w : World) (hA : Hid (A = none → c = 0)) (hnc : Hid (n ≤ c)) (hn : Hid (zs.length = n)) (hm : n ≤ 1073741824) (hs : Hid (Sees w B A (cellsU8 zs))) (hB : Hid (B ≤ w.heap.size)) (h0 : 0 ≤ o) (h1 : o ≤ 255) (ha : 0 ≤ a ∧ a ≤ 2147483647) (hp : 0 ≤ p ∧ p ≤ 2147483647) (hd : 0 ≤ d ∧ d ≤ 2147483647) (hi : 0 ≤ m ∧ m ≤ 18446744073709551615) :
    Calls Tryz.prog 40 #[.slice A n c, iv o a p d m, .bool true, .bool true, .bool false, .bool false] w fun e w' => ∃ r l, e = .returned r ∧ l = n + 1 + (opsY true true false false ⟨o, a, p, d, m⟩).length ∧ w'.ownsRow w.heap.size 5 1 r l (cellsU8 (zs ++ (o :: opsY true true false false ⟨o, a, p, d, m⟩))) ∧ Below w.heap.size w w' := by
  obtain ⟨i0, hi', hz0, hz1, hz2⟩ := info_parts Tryz.info5
  have hl0 := hn.out
  obtain ⟨W, hW⟩ : ∃ W, w.alloc (.cells #[.int .i64 o, .int .i64 a, .int .i64 p, .int .i64 d, .int .u64 m] 64) = W := ⟨_, rfl⟩
  have HW := hide hW
  have rx := hide (show Row W w.heap.size 64 [.int .i64 o, .int .i64 a, .int .i64 p, .int .i64 d, .int .u64 m] by rw [← hW]; exact Row.new w _ _)
  have hbW := hide (show Below w.heap.size w W by rw [← hW]; exact below1 w _)
  have hsW := hide (show Sees W W.heap.size A (cellsU8 zs) by rw [← hW]; exact (hs.out.alloc hB.out _).more (by have := hB.out; simp; omega))
  have hWs : w.heap.size + 1 = W.heap.size := by rw [← hW]; simp
  clear hW
  have HCL := hide (show (cellsU8 zs).length = n * 1 by have := hn.out; simp [cellsU8]; omega)
  have y0 := rx.out.cell (k := 0) rfl
  have y0' : ∀ ob : Obj, (W.alloc ob).cell? ⟨w.heap.size, 0, none⟩ = some (.int .i64 o) := fun ob => (rx.out.alloc ob).cell (k := 0) rfl
  have ho256 : IntKind.u8.wrap o = o := by rw [IntKind.wrap_u8']; omega
  have hwa : IntKind.u64.wrap a = a := wrap_u64_in _ (by omega) (by omega)
  have hwp : IntKind.u64.wrap p = p := wrap_u64_in _ (by omega) (by omega)
  have hwd : IntKind.u64.wrap d = d := wrap_u64_in _ (by omega) (by omega)
  have hwl : W.heap.size = W.heap.size := rfl
  go_enter Tryz.func40, Tryz.ntmps40
  go_upto_region 1 with (fail)
  rw [HW.out]
  clear HW
  go_region_law
    (first
      | (refine wp_append_seesN (.const (.slice none 0 0)) (.tmp 13) 22 rfl W.heap.size 5 i0 (.int .u8 0) 1 1 Tryz.underlying22 hi' hz0 hz1 hz2 rfl (by decide) (.slice none 0 0) 0 [] rfl (World.ownsRow_nil _ _ _ _) W.heap.size A n c (cellsU8 zs) rfl hA HCL (hide (hsW.out.draws 1)) hnc (one_u8 _) (by unfold maxLen; omega) (by omega) (Nat.le_refl _) ?_; intro v1 w5 ho1 hg1; have hG1 : W.grownBy w5 none := (grown_draws (World.grownBy.refl W none) 1).trans hg1; have s20 := (rx.out.grown hG1 (fun e => by cases e)).cell (k := 0) rfl)
      | (refine wp_append_seesN (.const (.slice none 0 0)) (.tmp 13) 22 rfl W.heap.size 5 i0 (.int .u8 0) 1 1 Tryz.underlying22 hi' hz0 hz1 hz2 rfl (by decide) (.slice none 0 0) 0 [] rfl (World.ownsRow_nil _ _ _ _) W.heap.size A n c (cellsU8 zs) rfl hA HCL (hide ((hsW.out.draws 1).alloc (Nat.le_refl _) _)) hnc (one_u8 _) (by unfold maxLen; omega) (by omega) (by simp) ?_; intro v1 w5 ho1 hg1; have hG1 : W.grownBy w5 none := ((grown_draws (World.grownBy.refl W none) 1).trans (World.grownBy_alloc _ _ _)).trans hg1; have hN1 := ((Row.new (W.drewN 1) 5 [.int .u8 o]).at_ (g' := W.heap.size) rfl).grown hg1 (fun e => by cases e))
      | (refine wp_append_own _ (.tmp 14) (.tmp 18) 22 rfl W.heap.size 5 i0 (.int .u8 0) 1 1 Tryz.underlying22 hi' hz0 hz1 hz2 rfl (by decide) v1 (0 + n) ([] ++ cellsU8 zs) rfl (ho1.alloc _) ⟨w5.heap.size, 0, none⟩ 1 1 [.int .u8 o] rfl rfl (one_new _ _ _) (one_byte _) (by unfold maxLen; omega) (by omega) (by have := hG1.size; simp; omega) ?_; intro v2 w6 ho2 hg2 _; have HG6 : Hid (W.grownBy w6 none) := hide ((hG1.trans (World.grownBy_alloc _ _ _)).andThen hg2 (fun k hk => .inl (ho1.lt k hk).1)); obtain ⟨A6, c6, rfl, hA6, hc6, hf6, hs6⟩ := own_seen ho2)
      | (refine wp_append_own _ (.tmp 14) (.tmp 18) 22 rfl W.heap.size 5 i0 (.int .u8 0) 1 1 Tryz.underlying22 hi' hz0 hz1 hz2 rfl (by decide) v1 (0 + n) ([] ++ cellsU8 zs) rfl ho1 ⟨W.heap.size, 0, none⟩ 1 1 [.int .u8 o] rfl rfl (fun j u hu => by rw [WideShapes.add_plain, Nat.zero_add]; exact hN1.cell hu) (one_byte _) (by unfold maxLen; omega) (by omega) hG1.size ?_; intro v2 w6 ho2 hg2 _; have HG6 : Hid (W.grownBy w6 none) := hide (hG1.andThen hg2 (fun k hk => .inl (ho1.lt k hk).1)); obtain ⟨A6, c6, rfl, hA6, hc6, hf6, hs6⟩ := own_seen ho2))
  all_goals
    simp only [Nat.zero_add] at ho2
    have hb6 := hide (show Below w.heap.size w w6 from hbW.out.grown HG6.out hbW.out.size (fun k hk => by cases hk))
    have rx0 := hide (rx.out.grown HG6.out (fun e => by cases e))
    have O0 := hide (show w6.ownsRow (w.heap.size + 1) 5 1 (.slice A6 (n + 1) c6) (n + 1) (cellsU8 (zs ++ [o])) by rw [cellsU8_app, hWs]; exact ho2)
    have hA0 := hide hA6
    clear ho2 hg2 ho1 hg1 hG1 hc6 hf6 hs6 hA6 y0 y0'
    have g1 := rx0.out.cell (k := 1) rfl
    have l10_1 := lenv_le a.toNat (by omega)
    go_wp2_with fail
    refine (refput_any A6 (n + 1) c6 (zs ++ [o]) a w6.heap.size w6 hA0 (hide (by have := own_len O0.out; simpa [cellsU8] using this)) (by omega) (Sees.own O0.out) (by omega) (by omega)).mono ?_
    rintro e wq1 ⟨r1, rfl, hoq, hbq⟩
    obtain ⟨Aq1, cq1, rfl, haq, -, -, -⟩ := own_seen hoq
    have hs1 := hb6.out.size
    have hss1 := hbq.size
    have Oq1 := hide (own_less hoq (show w.heap.size + 1 ≤ w6.heap.size by have := rx0.out.lt; omega))
    have aq1 := hide haq
    have rq1 := hide (rx0.out.call hbq)
    have bq1 := hide (hb6.out.trans (hbq.mono hb6.out.size))
    clear hoq hbq haq g1
    have g2 := rq1.out.cell (k := 2) rfl
    have l10_2 := lenv_le p.toNat (by omega)
    go_wp2_with fail
    refine (refput_any Aq1 (n + 1 + lenv a.toNat) cq1 ((zs ++ [o]) ++ digsI a.toNat) p wq1.heap.size wq1 aq1 (hide (by have := own_len Oq1.out; simpa [cellsU8] using this)) (by omega) (Sees.own Oq1.out) (by omega) (by omega)).mono ?_
    rintro e wq2 ⟨r2, rfl, hoq, hbq⟩
    obtain ⟨Aq2, cq2, rfl, haq, -, -, -⟩ := own_seen hoq
    have hs2 := bq1.out.size
    have hss2 := hbq.size
    have Oq2 := hide (own_less hoq (show w.heap.size + 1 ≤ wq1.heap.size by have := rq1.out.lt; omega))
    have aq2 := hide haq
    have rq2 := hide (rq1.out.call hbq)
    have bq2 := hide (bq1.out.trans (hbq.mono bq1.out.size))
    clear hoq hbq haq g2
    have FIN := hide (show wq2.ownsRow w.heap.size 5 1 (.slice Aq2 (n + 1 + lenv a.toNat + lenv p.toNat) cq2) (n + 1 + lenv a.toNat + lenv p.toNat) (cellsU8 (zs ++ (o :: opsY true true false false ⟨o, a, p, d, m⟩))) by
      rw [show zs ++ (o :: opsY true true false false ⟨o, a, p, d, m⟩) = (((zs ++ [o]) ++ digsI a.toNat) ++ digsI p.toNat) by simp [opsY, optY]]
      exact own_less Oq2.out (by omega))
    have HB := hide bq2.out
    have HLL := hide (show n + 1 + lenv a.toNat + lenv p.toNat = n + 1 + (opsY true true false false ⟨o, a, p, d, m⟩).length by simp [opsY, optY, digsI_length]; try omega)
    go_wp2
    go_ret
    first
      | exact ⟨_, _, rfl, HLL.out, FIN.out, HB.out⟩
      | exact ⟨_, rfl, by rw [← HLL.out]; exact FIN.out, HB.out⟩

set_option maxRecDepth 100000 in
set_option maxHeartbeats 4000000 in
theorem rputi_a (A : Option Addr) (n c : Nat) (zs : List Int) (o a p d m : Int) (B : Nat) (w : World) (hA : Hid (A = none → c = 0)) (hnc : Hid (n ≤ c)) (hn : Hid (zs.length = n)) (hm : n ≤ 1073741824) (hs : Hid (Sees w B A (cellsU8 zs))) (hB : Hid (B ≤ w.heap.size)) (h0 : 0 ≤ o) (h1 : o ≤ 255) (ha : 0 ≤ a ∧ a ≤ 2147483647) (hp : 0 ≤ p ∧ p ≤ 2147483647) (hd : 0 ≤ d ∧ d ≤ 2147483647) (hi : 0 ≤ m ∧ m ≤ 18446744073709551615) :
    Calls Tryz.prog 40 #[.slice A n c, iv o a p d m, .bool true, .bool false, .bool false, .bool false] w fun e w' => ∃ r l, e = .returned r ∧ l = n + 1 + (opsY true false false false ⟨o, a, p, d, m⟩).length ∧ w'.ownsRow w.heap.size 5 1 r l (cellsU8 (zs ++ (o :: opsY true false false false ⟨o, a, p, d, m⟩))) ∧ Below w.heap.size w w' := by
  obtain ⟨i0, hi', hz0, hz1, hz2⟩ := info_parts Tryz.info5
  have hl0 := hn.out
  obtain ⟨W, hW⟩ : ∃ W, w.alloc (.cells #[.int .i64 o, .int .i64 a, .int .i64 p, .int .i64 d, .int .u64 m] 64) = W := ⟨_, rfl⟩
  have HW := hide hW
  have rx := hide (show Row W w.heap.size 64 [.int .i64 o, .int .i64 a, .int .i64 p, .int .i64 d, .int .u64 m] by rw [← hW]; exact Row.new w _ _)
  have hbW := hide (show Below w.heap.size w W by rw [← hW]; exact below1 w _)
  have hsW := hide (show Sees W W.heap.size A (cellsU8 zs) by rw [← hW]; exact (hs.out.alloc hB.out _).more (by have := hB.out; simp; omega))
  have hWs : w.heap.size + 1 = W.heap.size := by rw [← hW]; simp
  clear hW
  have HCL := hide (show (cellsU8 zs).length = n * 1 by have := hn.out; simp [cellsU8]; omega)
  have y0 := rx.out.cell (k := 0) rfl
  have y0' : ∀ ob : Obj, (W.alloc ob).cell? ⟨w.heap.size, 0, none⟩ = some (.int .i64 o) := fun ob => (rx.out.alloc ob).cell (k := 0) rfl
  have ho256 : IntKind.u8.wrap o = o := by rw [IntKind.wrap_u8']; omega
  have hwa : IntKind.u64.wrap a = a := wrap_u64_in _ (by omega) (by omega)
  have hwp : IntKind.u64.wrap p = p := wrap_u64_in _ (by omega) (by omega)
  have hwd : IntKind.u64.wrap d = d := wrap_u64_in _ (by omega) (by omega)
  have hwl : W.heap.size = W.heap.size := rfl
  go_enter Tryz.func40, Tryz.ntmps40
  go_upto_region 1 with (fail)
  rw [HW.out]
  clear HW
  go_region_law
    (first
      | (refine wp_append_seesN (.const (.slice none 0 0)) (.tmp 13) 22 rfl W.heap.size 5 i0 (.int .u8 0) 1 1 Tryz.underlying22 hi' hz0 hz1 hz2 rfl (by decide) (.slice none 0 0) 0 [] rfl (World.ownsRow_nil _ _ _ _) W.heap.size A n c (cellsU8 zs) rfl hA HCL (hide (hsW.out.draws 1)) hnc (one_u8 _) (by unfold maxLen; omega) (by omega) (Nat.le_refl _) ?_; intro v1 w5 ho1 hg1; have hG1 : W.grownBy w5 none := (grown_draws (World.grownBy.refl W none) 1).trans hg1; have s20 := (rx.out.grown hG1 (fun e => by cases e)).cell (k := 0) rfl)
      | (refine wp_append_seesN (.const (.slice none 0 0)) (.tmp 13) 22 rfl W.heap.size 5 i0 (.int .u8 0) 1 1 Tryz.underlying22 hi' hz0 hz1 hz2 rfl (by decide) (.slice none 0 0) 0 [] rfl (World.ownsRow_nil _ _ _ _) W.heap.size A n c (cellsU8 zs) rfl hA HCL (hide ((hsW.out.draws 1).alloc (Nat.le_refl _) _)) hnc (one_u8 _) (by unfold maxLen; omega) (by omega) (by simp) ?_; intro v1 w5 ho1 hg1; have hG1 : W.grownBy w5 none := ((grown_draws (World.grownBy.refl W none) 1).trans (World.grownBy_alloc _ _ _)).trans hg1; have hN1 := ((Row.new (W.drewN 1) 5 [.int .u8 o]).at_ (g' := W.heap.size) rfl).grown hg1 (fun e => by cases e))
      | (refine wp_append_own _ (.tmp 14) (.tmp 18) 22 rfl W.heap.size 5 i0 (.int .u8 0) 1 1 Tryz.underlying22 hi' hz0 hz1 hz2 rfl (by decide) v1 (0 + n) ([] ++ cellsU8 zs) rfl (ho1.alloc _) ⟨w5.heap.size, 0, none⟩ 1 1 [.int .u8 o] rfl rfl (one_new _ _ _) (one_byte _) (by unfold maxLen; omega) (by omega) (by have := hG1.size; simp; omega) ?_; intro v2 w6 ho2 hg2 _; have HG6 : Hid (W.grownBy w6 none) := hide ((hG1.trans (World.grownBy_alloc _ _ _)).andThen hg2 (fun k hk => .inl (ho1.lt k hk).1)); obtain ⟨A6, c6, rfl, hA6, hc6, hf6, hs6⟩ := own_seen ho2)
      | (refine wp_append_own _ (.tmp 14) (.tmp 18) 22 rfl W.heap.size 5 i0 (.int .u8 0) 1 1 Tryz.underlying22 hi' hz0 hz1 hz2 rfl (by decide) v1 (0 + n) ([] ++ cellsU8 zs) rfl ho1 ⟨W.heap.size, 0, none⟩ 1 1 [.int .u8 o] rfl rfl (fun j u hu => by rw [WideShapes.add_plain, Nat.zero_add]; exact hN1.cell hu) (one_byte _) (by unfold maxLen; omega) (by omega) hG1.size ?_; intro v2 w6 ho2 hg2 _; have HG6 : Hid (W.grownBy w6 none) := hide (hG1.andThen hg2 (fun k hk => .inl (ho1.lt k hk).1)); obtain ⟨A6, c6, rfl, hA6, hc6, hf6, hs6⟩ := own_seen ho2))
  all_goals
    simp only [Nat.zero_add] at ho2
    have hb6 := hide (show Below w.heap.size w w6 from hbW.out.grown HG6.out hbW.out.size (fun k hk => by cases hk))
    have rx0 := hide (rx.out.grown HG6.out (fun e => by cases e))
    have O0 := hide (show w6.ownsRow (w.heap.size + 1) 5 1 (.slice A6 (n + 1) c6) (n + 1) (cellsU8 (zs ++ [o])) by rw [cellsU8_app, hWs]; exact ho2)
    have hA0 := hide hA6
    clear ho2 hg2 ho1 hg1 hG1 hc6 hf6 hs6 hA6 y0 y0'
    have g1 := rx0.out.cell (k := 1) rfl
    have l10_1 := lenv_le a.toNat (by omega)
    go_wp2_with fail
    refine (refput_any A6 (n + 1) c6 (zs ++ [o]) a w6.heap.size w6 hA0 (hide (by have := own_len O0.out; simpa [cellsU8] using this)) (by omega) (Sees.own O0.out) (by omega) (by omega)).mono ?_
    rintro e wq1 ⟨r1, rfl, hoq, hbq⟩
    obtain ⟨Aq1, cq1, rfl, haq, -, -, -⟩ := own_seen hoq
    have hs1 := hb6.out.size
    have hss1 := hbq.size
    have Oq1 := hide (own_less hoq (show w.heap.size + 1 ≤ w6.heap.size by have := rx0.out.lt; omega))
    have aq1 := hide haq
    have rq1 := hide (rx0.out.call hbq)
    have bq1 := hide (hb6.out.trans (hbq.mono hb6.out.size))
    clear hoq hbq haq g1
    have FIN := hide (show wq1.ownsRow w.heap.size 5 1 (.slice Aq1 (n + 1 + lenv a.toNat) cq1) (n + 1 + lenv a.toNat) (cellsU8 (zs ++ (o :: opsY true false false false ⟨o, a, p, d, m⟩))) by
      rw [show zs ++ (o :: opsY true false false false ⟨o, a, p, d, m⟩) = ((zs ++ [o]) ++ digsI a.toNat) by simp [opsY, optY]]
      exact own_less Oq1.out (by omega))
    have HB := hide bq1.out
    have HLL := hide (show n + 1 + lenv a.toNat = n + 1 + (opsY true false false false ⟨o, a, p, d, m⟩).length by simp [opsY, optY, digsI_length]; try omega)
    go_wp2
    go_ret
    first
      | exact ⟨_, _, rfl, HLL.out, FIN.out, HB.out⟩
      | exact ⟨_, rfl, by rw [← HLL.out]; exact FIN.out, HB.out⟩

set_option maxRecDepth 100000 in
set_option maxHeartbeats 4000000 in
theorem rputi_ai (A : Option Addr) (n c : Nat) (zs : List Int) (o a p d m : Int) (B : Nat) (w : World) (hA : Hid (A = none → c = 0)) (hnc : Hid (n ≤ c)) (hn : Hid (zs.length = n)) (hm : n ≤ 1073741824) (hs : Hid (Sees w B A (cellsU8 zs))) (hB : Hid (B ≤ w.heap.size)) (h0 : 0 ≤ o) (h1 : o ≤ 255) (ha : 0 ≤ a ∧ a ≤ 2147483647) (hp : 0 ≤ p ∧ p ≤ 2147483647) (hd : 0 ≤ d ∧ d ≤ 2147483647) (hi : 0 ≤ m ∧ m ≤ 18446744073709551615) :
    Calls Tryz.prog 40 #[.slice A n c, iv o a p d m, .bool true, .bool false, .bool false, .bool true] w fun e w' => ∃ r l, e = .returned r ∧ l = n + 1 + (opsY true false false true ⟨o, a, p, d, m⟩).length ∧ w'.ownsRow w.heap.size 5 1 r l (cellsU8 (zs ++ (o :: opsY true false false true ⟨o, a, p, d, m⟩))) ∧ Below w.heap.size w w' := by
  obtain ⟨i0, hi', hz0, hz1, hz2⟩ := info_parts Tryz.info5
  have hl0 := hn.out
  obtain ⟨W, hW⟩ : ∃ W, w.alloc (.cells #[.int .i64 o, .int .i64 a, .int .i64 p, .int .i64 d, .int .u64 m] 64) = W := ⟨_, rfl⟩
  have HW := hide hW
  have rx := hide (show Row W w.heap.size 64 [.int .i64 o, .int .i64 a, .int .i64 p, .int .i64 d, .int .u64 m] by rw [← hW]; exact Row.new w _ _)
  have hbW := hide (show Below w.heap.size w W by rw [← hW]; exact below1 w _)
  have hsW := hide (show Sees W W.heap.size A (cellsU8 zs) by rw [← hW]; exact (hs.out.alloc hB.out _).more (by have := hB.out; simp; omega))
  have hWs : w.heap.size + 1 = W.heap.size := by rw [← hW]; simp
  clear hW
  have HCL := hide (show (cellsU8 zs).length = n * 1 by have := hn.out; simp [cellsU8]; omega)
  have y0 := rx.out.cell (k := 0) rfl
  have y0' : ∀ ob : Obj, (W.alloc ob).cell? ⟨w.heap.size, 0, none⟩ = some (.int .i64 o) := fun ob => (rx.out.alloc ob).cell (k := 0) rfl
  have ho256 : IntKind.u8.wrap o = o := by rw [IntKind.wrap_u8']; omega
  have hwa : IntKind.u64.wrap a = a := wrap_u64_in _ (by omega) (by omega)
  have hwp : IntKind.u64.wrap p = p := wrap_u64_in _ (by omega) (by omega)
  have hwd : IntKind.u64.wrap d = d := wrap_u64_in _ (by omega) (by omega)
  have hwl : W.heap.size = W.heap.size := rfl
  go_enter Tryz.func40, Tryz.ntmps40
  go_upto_region 1 with (fail)
  rw [HW.out]
  clear HW
  go_region_law
    (first
      | (refine wp_append_seesN (.const (.slice none 0 0)) (.tmp 13) 22 rfl W.heap.size 5 i0 (.int .u8 0) 1 1 Tryz.underlying22 hi' hz0 hz1 hz2 rfl (by decide) (.slice none 0 0) 0 [] rfl (World.ownsRow_nil _ _ _ _) W.heap.size A n c (cellsU8 zs) rfl hA HCL (hide (hsW.out.draws 1)) hnc (one_u8 _) (by unfold maxLen; omega) (by omega) (Nat.le_refl _) ?_; intro v1 w5 ho1 hg1; have hG1 : W.grownBy w5 none := (grown_draws (World.grownBy.refl W none) 1).trans hg1; have s20 := (rx.out.grown hG1 (fun e => by cases e)).cell (k := 0) rfl)
      | (refine wp_append_seesN (.const (.slice none 0 0)) (.tmp 13) 22 rfl W.heap.size 5 i0 (.int .u8 0) 1 1 Tryz.underlying22 hi' hz0 hz1 hz2 rfl (by decide) (.slice none 0 0) 0 [] rfl (World.ownsRow_nil _ _ _ _) W.heap.size A n c (cellsU8 zs) rfl hA HCL (hide ((hsW.out.draws 1).alloc (Nat.le_refl _) _)) hnc (one_u8 _) (by unfold maxLen; omega) (by omega) (by simp) ?_; intro v1 w5 ho1 hg1; have hG1 : W.grownBy w5 none := ((grown_draws (World.grownBy.refl W none) 1).trans (World.grownBy_alloc _ _ _)).trans hg1; have hN1 := ((Row.new (W.drewN 1) 5 [.int .u8 o]).at_ (g' := W.heap.size) rfl).grown hg1 (fun e => by cases e))
      | (refine wp_append_own _ (.tmp 14) (.tmp 18) 22 rfl W.heap.size 5 i0 (.int .u8 0) 1 1 Tryz.underlying22 hi' hz0 hz1 hz2 rfl (by decide) v1 (0 + n) ([] ++ cellsU8 zs) rfl (ho1.alloc _) ⟨w5.heap.size, 0, none⟩ 1 1 [.int .u8 o] rfl rfl (one_new _ _ _) (one_byte _) (by unfold maxLen; omega) (by omega) (by have := hG1.size; simp; omega) ?_; intro v2 w6 ho2 hg2 _; have HG6 : Hid (W.grownBy w6 none) := hide ((hG1.trans (World.grownBy_alloc _ _ _)).andThen hg2 (fun k hk => .inl (ho1.lt k hk).1)); obtain ⟨A6, c6, rfl, hA6, hc6, hf6, hs6⟩ := own_seen ho2)
      | (refine wp_append_own _ (.tmp 14) (.tmp 18) 22 rfl W.heap.size 5 i0 (.int .u8 0) 1 1 Tryz.underlying22 hi' hz0 hz1 hz2 rfl (by decide) v1 (0 + n) ([] ++ cellsU8 zs) rfl ho1 ⟨W.heap.size, 0, none⟩ 1 1 [.int .u8 o] rfl rfl (fun j u hu => by rw [WideShapes.add_plain, Nat.zero_add]; exact hN1.cell hu) (one_byte _) (by unfold maxLen; omega) (by omega) hG1.size ?_; intro v2 w6 ho2 hg2 _; have HG6 : Hid (W.grownBy w6 none) := hide (hG1.andThen hg2 (fun k hk => .inl (ho1.lt k hk).1)); obtain ⟨A6, c6, rfl, hA6, hc6, hf6, hs6⟩ := own_seen ho2))
  all_goals
    simp only [Nat.zero_add] at ho2
    have hb6 := hide (show Below w.heap.size w w6 from hbW.out.grown HG6.out hbW.out.size (fun k hk => by cases hk))
    have rx0 := hide (rx.out.grown HG6.out (fun e => by cases e))
    have O0 := hide (show w6.ownsRow (w.heap.size + 1) 5 1 (.slice A6 (n + 1) c6) (n + 1) (cellsU8 (zs ++ [o])) by rw [cellsU8_app, hWs]; exact ho2)
    have hA0 := hide hA6
    clear ho2 hg2 ho1 hg1 hG1 hc6 hf6 hs6 hA6 y0 y0'
    have g1 := rx0.out.cell (k := 1) rfl
    have l10_1 := lenv_le a.toNat (by omega)
    go_wp2_with fail
    refine (refput_any A6 (n + 1) c6 (zs ++ [o]) a w6.heap.size w6 hA0 (hide (by have := own_len O0.out; simpa [cellsU8] using this)) (by omega) (Sees.own O0.out) (by omega) (by omega)).mono ?_
    rintro e wq1 ⟨r1, rfl, hoq, hbq⟩
    obtain ⟨Aq1, cq1, rfl, haq, -, -, -⟩ := own_seen hoq
    have hs1 := hb6.out.size
    have hss1 := hbq.size
    have Oq1 := hide (own_less hoq (show w.heap.size + 1 ≤ w6.heap.size by have := rx0.out.lt; omega))
    have aq1 := hide haq
    have rq1 := hide (rx0.out.call hbq)
    have bq1 := hide (hb6.out.trans (hbq.mono hb6.out.size))
    clear hoq hbq haq g1
    have g2 := rq1.out.cell (k := 4) rfl
    have l10_2 := lenv_le m.toNat (by omega)
    go_wp2_with fail
    refine (refput_any Aq1 (n + 1 + lenv a.toNat) cq1 ((zs ++ [o]) ++ digsI a.toNat) m wq1.heap.size wq1 aq1 (hide (by have := own_len Oq1.out; simpa [cellsU8] using this)) (by omega) (Sees.own Oq1.out) (by omega) (by omega)).mono ?_
    rintro e wq2 ⟨r2, rfl, hoq, hbq⟩
    obtain ⟨Aq2, cq2, rfl, haq, -, -, -⟩ := own_seen hoq
    have hs2 := bq1.out.size
    have hss2 := hbq.size
    have Oq2 := hide (own_less hoq (show w.heap.size + 1 ≤ wq1.heap.size by have := rq1.out.lt; omega))
    have aq2 := hide haq
    have rq2 := hide (rq1.out.call hbq)
    have bq2 := hide (bq1.out.trans (hbq.mono bq1.out.size))
    clear hoq hbq haq g2
    have FIN := hide (show wq2.ownsRow w.heap.size 5 1 (.slice Aq2 (n + 1 + lenv a.toNat + lenv m.toNat) cq2) (n + 1 + lenv a.toNat + lenv m.toNat) (cellsU8 (zs ++ (o :: opsY true false false true ⟨o, a, p, d, m⟩))) by
      rw [show zs ++ (o :: opsY true false false true ⟨o, a, p, d, m⟩) = (((zs ++ [o]) ++ digsI a.toNat) ++ digsI m.toNat) by simp [opsY, optY]]
      exact own_less Oq2.out (by omega))
    have HB := hide bq2.out
    have HLL := hide (show n + 1 + lenv a.toNat + lenv m.toNat = n + 1 + (opsY true false false true ⟨o, a, p, d, m⟩).length by simp [opsY, optY, digsI_length]; try omega)
    go_wp2
    go_ret
    first
      | exact ⟨_, _, rfl, HLL.out, FIN.out, HB.out⟩
      | exact ⟨_, rfl, by rw [← HLL.out]; exact FIN.out, HB.out⟩

set_option maxRecDepth 100000 in
set_option maxHeartbeats 4000000 in
theorem rputi_i (A : Option Addr) (n c : Nat) (zs : List Int) (o a p d m : Int) (B : Nat) (w : World) (hA : Hid (A = none → c = 0)) (hnc : Hid (n ≤ c)) (hn : Hid (zs.length = n)) (hm : n ≤ 1073741824) (hs : Hid (Sees w B A (cellsU8 zs))) (hB : Hid (B ≤ w.heap.size)) (h0 : 0 ≤ o) (h1 : o ≤ 255) (ha : 0 ≤ a ∧ a ≤ 2147483647) (hp : 0 ≤ p ∧ p ≤ 2147483647) (hd : 0 ≤ d ∧ d ≤ 2147483647) (hi : 0 ≤ m ∧ m ≤ 18446744073709551615) :
    Calls Tryz.prog 40 #[.slice A n c, iv o a p d m, .bool false, .bool false, .bool false, .bool true] w fun e w' => ∃ r l, e = .returned r ∧ l = n + 1 + (opsY false false false true ⟨o, a, p, d, m⟩).length ∧ w'.ownsRow w.heap.size 5 1 r l (cellsU8 (zs ++ (o :: opsY false false false true ⟨o, a, p, d, m⟩))) ∧ Below w.heap.size w w' := by
  obtain ⟨i0, hi', hz0, hz1, hz2⟩ := info_parts Tryz.info5
  have hl0 := hn.out
  obtain ⟨W, hW⟩ : ∃ W, w.alloc (.cells #[.int .i64 o, .int .i64 a, .int .i64 p, .int .i64 d, .int .u64 m] 64) = W := ⟨_, rfl⟩
  have HW := hide hW
  have rx := hide (show Row W w.heap.size 64 [.int .i64 o, .int .i64 a, .int .i64 p, .int .i64 d, .int .u64 m] by rw [← hW]; exact Row.new w _ _)
  have hbW := hide (show Below w.heap.size w W by rw [← hW]; exact below1 w _)
  have hsW := hide (show Sees W W.heap.size A (cellsU8 zs) by rw [← hW]; exact (hs.out.alloc hB.out _).more (by have := hB.out; simp; omega))
  have hWs : w.heap.size + 1 = W.heap.size := by rw [← hW]; simp
  clear hW
  have HCL := hide (show (cellsU8 zs).length = n * 1 by have := hn.out; simp [cellsU8]; omega)
  have y0 := rx.out.cell (k := 0) rfl
  have y0' : ∀ ob : Obj, (W.alloc ob).cell? ⟨w.heap.size, 0, none⟩ = some (.int .i64 o) := fun ob => (rx.out.alloc ob).cell (k := 0) rfl
  have ho256 : IntKind.u8.wrap o = o := by rw [IntKind.wrap_u8']; omega
  have hwa : IntKind.u64.wrap a = a := wrap_u64_in _ (by omega) (by omega)
  have hwp : IntKind.u64.wrap p = p := wrap_u64_in _ (by omega) (by omega)
  have hwd : IntKind.u64.wrap d = d := wrap_u64_in _ (by omega) (by omega)
  have hwl : W.heap.size = W.heap.size := rfl
  go_enter Tryz.func40, Tryz.ntmps40
  go_upto_region 1 with (fail)
  rw [HW.out]
  clear HW
  go_region_law
    (first
      | (refine wp_append_seesN (.const (.slice none 0 0)) (.tmp 13) 22 rfl W.heap.size 5 i0 (.int .u8 0) 1 1 Tryz.underlying22 hi' hz0 hz1 hz2 rfl (by decide) (.slice none 0 0) 0 [] rfl (World.ownsRow_nil _ _ _ _) W.heap.size A n c (cellsU8 zs) rfl hA HCL (hide (hsW.out.draws 1)) hnc (one_u8 _) (by unfold maxLen; omega) (by omega) (Nat.le_refl _) ?_; intro v1 w5 ho1 hg1; have hG1 : W.grownBy w5 none := (grown_draws (World.grownBy.refl W none) 1).trans hg1; have s20 := (rx.out.grown hG1 (fun e => by cases e)).cell (k := 0) rfl)
      | (refine wp_append_seesN (.const (.slice none 0 0)) (.tmp 13) 22 rfl W.heap.size 5 i0 (.int .u8 0) 1 1 Tryz.underlying22 hi' hz0 hz1 hz2 rfl (by decide) (.slice none 0 0) 0 [] rfl (World.ownsRow_nil _ _ _ _) W.heap.size A n c (cellsU8 zs) rfl hA HCL (hide ((hsW.out.draws 1).alloc (Nat.le_refl _) _)) hnc (one_u8 _) (by unfold maxLen; omega) (by omega) (by simp) ?_; intro v1 w5 ho1 hg1; have hG1 : W.grownBy w5 none := ((grown_draws (World.grownBy.refl W none) 1).trans (World.grownBy_alloc _ _ _)).trans hg1; have hN1 := ((Row.new (W.drewN 1) 5 [.int .u8 o]).at_ (g' := W.heap.size) rfl).grown hg1 (fun e => by cases e))
      | (refine wp_append_own _ (.tmp 14) (.tmp 18) 22 rfl W.heap.size 5 i0 (.int .u8 0) 1 1 Tryz.underlying22 hi' hz0 hz1 hz2 rfl (by decide) v1 (0 + n) ([] ++ cellsU8 zs) rfl (ho1.alloc _) ⟨w5.heap.size, 0, none⟩ 1 1 [.int .u8 o] rfl rfl (one_new _ _ _) (one_byte _) (by unfold maxLen; omega) (by omega) (by have := hG1.size; simp; omega) ?_; intro v2 w6 ho2 hg2 _; have HG6 : Hid (W.grownBy w6 none) := hide ((hG1.trans (World.grownBy_alloc _ _ _)).andThen hg2 (fun k hk => .inl (ho1.lt k hk).1)); obtain ⟨A6, c6, rfl, hA6, hc6, hf6, hs6⟩ := own_seen ho2)
      | (refine wp_append_own _ (.tmp 14) (.tmp 18) 22 rfl W.heap.size 5 i0 (.int .u8 0) 1 1 Tryz.underlying22 hi' hz0 hz1 hz2 rfl (by decide) v1 (0 + n) ([] ++ cellsU8 zs) rfl ho1 ⟨W.heap.size, 0, none⟩ 1 1 [.int .u8 o] rfl rfl (fun j u hu => by rw [WideShapes.add_plain, Nat.zero_add]; exact hN1.cell hu) (one_byte _) (by unfold maxLen; omega) (by omega) hG1.size ?_; intro v2 w6 ho2 hg2 _; have HG6 : Hid (W.grownBy w6 none) := hide (hG1.andThen hg2 (fun k hk => .inl (ho1.lt k hk).1)); obtain ⟨A6, c6, rfl, hA6, hc6, hf6, hs6⟩ := own_seen ho2))
  all_goals
    simp only [Nat.zero_add] at ho2
    have hb6 := hide (show Below w.heap.size w w6 from hbW.out.grown HG6.out hbW.out.size (fun k hk => by cases hk))
    have rx0 := hide (rx.out.grown HG6.out (fun e => by cases e))
    have O0 := hide (show w6.ownsRow (w.heap.size + 1) 5 1 (.slice A6 (n + 1) c6) (n + 1) (cellsU8 (zs ++ [o])) by rw [cellsU8_app, hWs]; exact ho2)
    have hA0 := hide hA6
    clear ho2 hg2 ho1 hg1 hG1 hc6 hf6 hs6 hA6 y0 y0'
    have g1 := rx0.out.cell (k := 4) rfl
    have l10_1 := lenv_le m.toNat (by omega)
    go_wp2_with fail
    refine (refput_any A6 (n + 1) c6 (zs ++ [o]) m w6.heap.size w6 hA0 (hide (by have := own_len O0.out; simpa [cellsU8] using this)) (by omega) (Sees.own O0.out) (by omega) (by omega)).mono ?_
    rintro e wq1 ⟨r1, rfl, hoq, hbq⟩
    obtain ⟨Aq1, cq1, rfl, haq, -, -, -⟩ := own_seen hoq
    have hs1 := hb6.out.size
    have hss1 := hbq.size
    have Oq1 := hide (own_less hoq (show w.heap.size + 1 ≤ w6.heap.size by have := rx0.out.lt; omega))
    have aq1 := hide haq
    have rq1 := hide (rx0.out.call hbq)
    have bq1 := hide (hb6.out.trans (hbq.mono hb6.out.size))
    clear hoq hbq haq g1
    have FIN := hide (show wq1.ownsRow w.heap.size 5 1 (.slice Aq1 (n + 1 + lenv m.toNat) cq1) (n + 1 + lenv m.toNat) (cellsU8 (zs ++ (o :: opsY false false false true ⟨o, a, p, d, m⟩))) by
      rw [show zs ++ (o :: opsY false false false true ⟨o, a, p, d, m⟩) = ((zs ++ [o]) ++ digsI m.toNat) by simp [opsY, optY]]
      exact own_less Oq1.out (by omega))
    have HB := hide bq1.out
    have HLL := hide (show n + 1 + lenv m.toNat = n + 1 + (opsY false false false true ⟨o, a, p, d, m⟩).length by simp [opsY, optY, digsI_length]; try omega)
    go_wp2
    go_ret
    first
      | exact ⟨_, _, rfl, HLL.out, FIN.out, HB.out⟩
      | exact ⟨_, rfl, by rw [← HLL.out]; exact FIN.out, HB.out⟩

set_option maxRecDepth 100000 in
set_option maxHeartbeats 4000000 in
theorem rputi_o (A : Option Addr) (n c : Nat) (zs : List Int) (o a p d m : Int) (B : Nat) (w : World) (hA : Hid (A = none → c = 0)) (hnc : Hid (n ≤ c)) (hn : Hid (zs.length = n)) (hm : n ≤ 1073741824) (hs : Hid (Sees w B A (cellsU8 zs))) (hB : Hid (B ≤ w.heap.size)) (h0 : 0 ≤ o) (h1 : o ≤ 255) (ha : 0 ≤ a ∧ a ≤ 2147483647) (hp : 0 ≤ p ∧ p ≤ 2147483647) (hd : 0 ≤ d ∧ d ≤ 2147483647) (hi : 0 ≤ m ∧ m ≤ 18446744073709551615) :
    Calls Tryz.prog 40 #[.slice A n c, iv o a p d m, .bool false, .bool false, .bool false, .bool false] w fun e w' => ∃ r l, e = .returned r ∧ l = n + 1 + (opsY false false false false ⟨o, a, p, d, m⟩).length ∧ w'.ownsRow w.heap.size 5 1 r l (cellsU8 (zs ++ (o :: opsY false false false false ⟨o, a, p, d, m⟩))) ∧ Below w.heap.size w w' := by
  obtain ⟨i0, hi', hz0, hz1, hz2⟩ := info_parts Tryz.info5
  have hl0 := hn.out
  obtain ⟨W, hW⟩ : ∃ W, w.alloc (.cells #[.int .i64 o, .int .i64 a, .int .i64 p, .int .i64 d, .int .u64 m] 64) = W := ⟨_, rfl⟩
  have HW := hide hW
  have rx := hide (show Row W w.heap.size 64 [.int .i64 o, .int .i64 a, .int .i64 p, .int .i64 d, .int .u64 m] by rw [← hW]; exact Row.new w _ _)
  have hbW := hide (show Below w.heap.size w W by rw [← hW]; exact below1 w _)
  have hsW := hide (show Sees W W.heap.size A (cellsU8 zs) by rw [← hW]; exact (hs.out.alloc hB.out _).more (by have := hB.out; simp; omega))
  have hWs : w.heap.size + 1 = W.heap.size := by rw [← hW]; simp
  clear hW
  have HCL := hide (show (cellsU8 zs).length = n * 1 by have := hn.out; simp [cellsU8]; omega)
  have y0 := rx.out.cell (k := 0) rfl
  have y0' : ∀ ob : Obj, (W.alloc ob).cell? ⟨w.heap.size, 0, none⟩ = some (.int .i64 o) := fun ob => (rx.out.alloc ob).cell (k := 0) rfl
  have ho256 : IntKind.u8.wrap o = o := by rw [IntKind.wrap_u8']; omega
  have hwa : IntKind.u64.wrap a = a := wrap_u64_in _ (by omega) (by omega)
  have hwp : IntKind.u64.wrap p = p := wrap_u64_in _ (by omega) (by omega)
  have hwd : IntKind.u64.wrap d = d := wrap_u64_in _ (by omega) (by omega)
  have hwl : W.heap.size = W.heap.size := rfl
  go_enter Tryz.func40, Tryz.ntmps40
  go_upto_region 1 with (fail)
  rw [HW.out]
  clear HW
  go_region_law
    (first
      | (refine wp_append_seesN (.const (.slice none 0 0)) (.tmp 13) 22 rfl W.heap.size 5 i0 (.int .u8 0) 1 1 Tryz.underlying22 hi' hz0 hz1 hz2 rfl (by decide) (.slice none 0 0) 0 [] rfl (World.ownsRow_nil _ _ _ _) W.heap.size A n c (cellsU8 zs) rfl hA HCL (hide (hsW.out.draws 1)) hnc (one_u8 _) (by unfold maxLen; omega) (by omega) (Nat.le_refl _) ?_; intro v1 w5 ho1 hg1; have hG1 : W.grownBy w5 none := (grown_draws (World.grownBy.refl W none) 1).trans hg1; have s20 := (rx.out.grown hG1 (fun e => by cases e)).cell (k := 0) rfl)
      | (refine wp_append_seesN (.const (.slice none 0 0)) (.tmp 13) 22 rfl W.heap.size 5 i0 (.int .u8 0) 1 1 Tryz.underlying22 hi' hz0 hz1 hz2 rfl (by decide) (.slice none 0 0) 0 [] rfl (World.ownsRow_nil _ _ _ _) W.heap.size A n c (cellsU8 zs) rfl hA HCL (hide ((hsW.out.draws 1).alloc (Nat.le_refl _) _)) hnc (one_u8 _) (by unfold maxLen; omega) (by omega) (by simp) ?_; intro v1 w5 ho1 hg1; have hG1 : W.grownBy w5 none := ((grown_draws (World.grownBy.refl W none) 1).trans (World.grownBy_alloc _ _ _)).trans hg1; have hN1 := ((Row.new (W.drewN 1) 5 [.int .u8 o]).at_ (g' := W.heap.size) rfl).grown hg1 (fun e => by cases e))
      | (refine wp_append_own _ (.tmp 14) (.tmp 18) 22 rfl W.heap.size 5 i0 (.int .u8 0) 1 1 Tryz.underlying22 hi' hz0 hz1 hz2 rfl (by decide) v1 (0 + n) ([] ++ cellsU8 zs) rfl (ho1.alloc _) ⟨w5.heap.size, 0, none⟩ 1 1 [.int .u8 o] rfl rfl (one_new _ _ _) (one_byte _) (by unfold maxLen; omega) (by omega) (by have := hG1.size; simp; omega) ?_; intro v2 w6 ho2 hg2 _; have HG6 : Hid (W.grownBy w6 none) := hide ((hG1.trans (World.grownBy_alloc _ _ _)).andThen hg2 (fun k hk => .inl (ho1.lt k hk).1)); obtain ⟨A6, c6, rfl, hA6, hc6, hf6, hs6⟩ := own_seen ho2)
      | (refine wp_append_own _ (.tmp 14) (.tmp 18) 22 rfl W.heap.size 5 i0 (.int .u8 0) 1 1 Tryz.underlying22 hi' hz0 hz1 hz2 rfl (by decide) v1 (0 + n) ([] ++ cellsU8 zs) rfl ho1 ⟨W.heap.size, 0, none⟩ 1 1 [.int .u8 o] rfl rfl (fun j u hu => by rw [WideShapes.add_plain, Nat.zero_add]; exact hN1.cell hu) (one_byte _) (by unfold maxLen; omega) (by omega) hG1.size ?_; intro v2 w6 ho2 hg2 _; have HG6 : Hid (W.grownBy w6 none) := hide (hG1.andThen hg2 (fun k hk => .inl (ho1.lt k hk).1)); obtain ⟨A6, c6, rfl, hA6, hc6, hf6, hs6⟩ := own_seen ho2))
  all_goals
    simp only [Nat.zero_add] at ho2
    have hb6 := hide (show Below w.heap.size w w6 from hbW.out.grown HG6.out hbW.out.size (fun k hk => by cases hk))
    have rx0 := hide (rx.out.grown HG6.out (fun e => by cases e))
    have O0 := hide (show w6.ownsRow (w.heap.size + 1) 5 1 (.slice A6 (n + 1) c6) (n + 1) (cellsU8 (zs ++ [o])) by rw [cellsU8_app, hWs]; exact ho2)
    have hA0 := hide hA6
    clear ho2 hg2 ho1 hg1 hG1 hc6 hf6 hs6 hA6 y0 y0'
    have FIN := hide (show w6.ownsRow w.heap.size 5 1 (.slice A6 (n + 1) c6) (n + 1) (cellsU8 (zs ++ (o :: opsY false false false false ⟨o, a, p, d, m⟩))) by
      rw [show zs ++ (o :: opsY false false false false ⟨o, a, p, d, m⟩) = (zs ++ [o]) by simp [opsY, optY]]
      exact own_less O0.out (by omega))
    have HB := hide hb6.out
    have HLL := hide (show n + 1 = n + 1 + (opsY false false false false ⟨o, a, p, d, m⟩).length by simp [opsY, optY, digsI_length]; try omega)
    go_wp2
    go_ret
    first
      | exact ⟨_, _, rfl, HLL.out, FIN.out, HB.out⟩
      | exact ⟨_, rfl, by rw [← HLL.out]; exact FIN.out, HB.out⟩

theorem rputi_any (A : Option Addr) (n c : Nat) (zs : List Int) (x : Ins) (B : Nat) (w : World) (hA : Hid (A = none → c = 0)) (hnc : Hid (n ≤ c)) (hn : Hid (zs.length = n)) (hm : n ≤ 1073741824) (hs : Hid (Sees w B A (cellsU8 zs))) (hB : Hid (B ≤ w.heap.size)) (hx : Hid (InsW x)) :
    Calls Tryz.prog 40 #[.slice A n c, iv x.op x.a x.b x.c x.imm, .bool (useA x.op), .bool (useB x.op), .bool (useC x.op), .bool (useI x.op)] w fun e w' => ∃ r l, e = .returned r ∧ l = n + (insY x).length ∧ w'.ownsRow w.heap.size 5 1 r l (cellsU8 (zs ++ insY x)) ∧ Below w.heap.size w w' := by
  have h := hx.out
  obtain ⟨o, a, p, d, m⟩ := x
  have h1 := h.o
  have h2 := h.a
  have h3 := h.b
  have h4 := h.c
  have h5 := h.m
  simp only at h1 h2 h3 h4 h5
  have hl : ∀ ua ub uc ui : Bool, n + 1 + (opsY ua ub uc ui ⟨o, a, p, d, m⟩).length = n + (o :: opsY ua ub uc ui ⟨o, a, p, d, m⟩).length := fun _ _ _ _ => by simp; omega
  unfold insY
  simp only
  rcases shapes_of h1.1 h1.2 with ⟨a1, a2, a3, a4⟩ | ⟨a1, a2, a3, a4⟩ | ⟨a1, a2, a3, a4⟩ | ⟨a1, a2, a3, a4⟩ | ⟨a1, a2, a3, a4⟩ | ⟨a1, a2, a3, a4⟩
  · rw [a1, a2, a3, a4]
    exact (rputi_aaa A n c zs o a p d m B w hA hnc hn hm hs hB h1.1 (by omega) h2 h3 h4 h5).mono fun e w' ⟨r, l, e1, e2, e3, e4⟩ => ⟨r, l, e1, by rw [e2]; exact hl _ _ _ _, e3, e4⟩
  · rw [a1, a2, a3, a4]
    exact (rputi_aa A n c zs o a p d m B w hA hnc hn hm hs hB h1.1 (by omega) h2 h3 h4 h5).mono fun e w' ⟨r, l, e1, e2, e3, e4⟩ => ⟨r, l, e1, by rw [e2]; exact hl _ _ _ _, e3, e4⟩
  · rw [a1, a2, a3, a4]
    exact (rputi_a A n c zs o a p d m B w hA hnc hn hm hs hB h1.1 (by omega) h2 h3 h4 h5).mono fun e w' ⟨r, l, e1, e2, e3, e4⟩ => ⟨r, l, e1, by rw [e2]; exact hl _ _ _ _, e3, e4⟩
  · rw [a1, a2, a3, a4]
    exact (rputi_ai A n c zs o a p d m B w hA hnc hn hm hs hB h1.1 (by omega) h2 h3 h4 h5).mono fun e w' ⟨r, l, e1, e2, e3, e4⟩ => ⟨r, l, e1, by rw [e2]; exact hl _ _ _ _, e3, e4⟩
  · rw [a1, a2, a3, a4]
    exact (rputi_i A n c zs o a p d m B w hA hnc hn hm hs hB h1.1 (by omega) h2 h3 h4 h5).mono fun e w' ⟨r, l, e1, e2, e3, e4⟩ => ⟨r, l, e1, by rw [e2]; exact hl _ _ _ _, e3, e4⟩
  · rw [a1, a2, a3, a4]
    exact (rputi_o A n c zs o a p d m B w hA hnc hn hm hs hB h1.1 (by omega) h2 h3 h4 h5).mono fun e w' ⟨r, l, e1, e2, e3, e4⟩ => ⟨r, l, e1, by rw [e2]; exact hl _ _ _ _, e3, e4⟩
end Go.Proofs.YtlcmcmocjbeocaaGreatDoor
end
