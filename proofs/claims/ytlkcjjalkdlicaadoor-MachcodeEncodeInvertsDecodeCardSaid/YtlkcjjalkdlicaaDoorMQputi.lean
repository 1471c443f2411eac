import Derived.Test.YtlkcjjalkdlicaaDoorMApn
import Derived.Test.YtlkcjjalkdlicaaDoorMJmath
import Derived.Test.YtlkcjjalkdlicaaDoorMQcor
import Derived.Test.YtlkcjjalkdlicaaDoorMEpow
import Derived.Test.YtlkcjjalkdlicaaDoorMMlow
import Derived.Test.YtlkcjjalkdlicaaDoorMPmem
import Derived.Test.YtlkcjjalkdlicaaDoorMScan
import Derived.Test.YtlkcjjalkdlicaaDoorMMod
import Derived.Deep.DeepCutAuto
import Derived.Outline
import Derived.ProofKit
import Derived.LaidMore
import Derived.OpenShut
import Derived.Stop.Joined
import Derived.Lib.SmallJoins
set_option linter.unusedVariables false
set_option linter.unusedSimpArgs false
section
/-
  The reference's PutInstr. Conditions: those of the types.
-/
namespace Go.Proofs.YtlkcjjalkdlicaaDoor
open Go.RowKit

set_option maxRecDepth 100000 in
set_option maxHeartbeats 4000000 in
theorem rputi_aaa (A : Option Addr) (n c : Nat) (zs : List Int) (o a p d m : Int) (B : Nat) (w : World) (hA : Hid (A = none → c = 0)) (hnc : Hid (n ≤ c)) (hn : Hid (zs.length = n)) (hm : n ≤ 1073741824) (hs : Hid (Sees w B A (cellsU8 zs))) (hB : Hid (B ≤ w.heap.size)) (h0 : 0 ≤ o) (h1 : o ≤ 255) (ha : 0 ≤ a ∧ a ≤ 2147483647) (hp : 0 ≤ p ∧ p ≤ 2147483647) (hd : 0 ≤ d ∧ d ≤ 2147483647) (hi : 0 ≤ m ∧ m ≤ 18446744073709551615) :
    Calls Tryd.prog 41 #[.slice A n c, iv o a p d m, .bool true, .bool true, .bool true, .bool false] w fun e w' => ∃ r l, e = .returned r ∧ l = n + 1 + (opsY true true true false ⟨o, a, p, d, m⟩).length ∧ w'.ownsRow w.heap.size 5 1 r l (cellsU8 (zs ++ (o :: opsY true true true false ⟨o, a, p, d, m⟩))) ∧ Below w.heap.size w w' := by
  obtain ⟨i0, hi', hz0, hz1, hz2⟩ := info_parts Tryd.info5
  have hl0 := hn.out
  obtain ⟨W, hW⟩ : ∃ W, w.alloc (.cells #[.int .i64 o, .int .i64 a, .int .i64 p, .int .i64 d, .int .u64 m] 65) = W := ⟨_, rfl⟩
  have HW := hide hW
  have rx := hide (show Row W w.heap.size 65 [.int .i64 o, .int .i64 a, .int .i64 p, .int .i64 d, .int .u64 m] by rw [← hW]; exact Row.new w _ _)
  have hbW := hide (show Below w.heap.size w W by rw [← hW]; exact below1 w _)
  have hsW := hide (show Sees W W.heap.size A (cellsU8 zs) by rw [← hW]; exact (hs.out.alloc hB.out _).more (by have := hB.out; simp; omega))
  have hWs : w.heap.size + 1 = W.heap.size := by rw [← hW]; simp
  clear hW
  have HCL := hide (show (cellsU8 zs).length = n * 1 by have := hn.out; simp [cellsU8]; omega)
  have y0 := rx.out.cell (k := 0) rfl
  have y0' : ∀ ob : Obj, (W.alloc ob).cell? ⟨w.heap.size, 0, none⟩ = some (.int .i64 o) := fun ob => (rx.out.alloc ob).cell (k := 0) rfl
  have ho256 : IntKind.u8.wrap o = o := by rw [IntKind.wrap_u8']; omega
  have hwa : IntKind.u64.wrap a = a := wrap_u64_in _ (by omega) (by omega)
  have hwp : IntKind.u64.wrap p = p := wrap_u64_in _ (by omega) (by omega)
  have hwd : IntKind.u64.wrap d = d := wrap_u64_in _ (by omega) (by omega)
  have hwl : W.heap.size = W.heap.size := rfl
  go_enter Tryd.func41, Tryd.ntmps41
  go_upto_region 1 with (fail)
  rw [HW.out]
  clear HW
  go_region_law
    (first
      | (refine wp_append_seesN (.const (.slice none 0 0)) (.tmp 13) 22 rfl W.heap.size 5 i0 (.int .u8 0) 1 1 Tryd.underlying22 hi' hz0 hz1 hz2 rfl (by decide) (.slice none 0 0) 0 [] rfl (World.ownsRow_nil _ _ _ _) W.heap.size A n c (cellsU8 zs) rfl hA HCL (hide (hsW.out.draws 1)) hnc (one_u8 _) (by unfold maxLen; omega) (by omega) (Nat.le_refl _) ?_; intro v1 w5 ho1 hg1; have hG1 : W.grownBy w5 none := (grown_draws (World.grownBy.refl W none) 1).trans hg1; have s20 := (rx.out.grown hG1 (fun e => by cases e)).cell (k := 0) rfl)
      | (refine wp_append_seesN (.const (.slice none 0 0)) (.tmp 13) 22 rfl W.heap.size 5 i0 (.int .u8 0) 1 1 Tryd.underlying22 hi' hz0 hz1 hz2 rfl (by decide) (.slice none 0 0) 0 [] rfl (World.ownsRow_nil _ _ _ _) W.heap.size A n c (cellsU8 zs) rfl hA HCL (hide ((hsW.out.draws 1).alloc (Nat.le_refl _) _)) hnc (one_u8 _) (by unfold maxLen; omega) (by omega) (by simp) ?_; intro v1 w5 ho1 hg1; have hG1 : W.grownBy w5 none := ((grown_draws (World.grownBy.refl W none) 1).trans (World.grownBy_alloc _ _ _)).trans hg1; have hN1 := ((Row.new (W.drewN 1) 5 [.int .u8 o]).at_ (g' := W.heap.size) rfl).grown hg1 (fun e => by cases e))
      | (refine wp_append_own _ (.tmp 14) (.tmp 18) 22 rfl W.heap.size 5 i0 (.int .u8 0) 1 1 Tryd.underlying22 hi' hz0 hz1 hz2 rfl (by decide) v1 (0 + n) ([] ++ cellsU8 zs) rfl (ho1.alloc _) ⟨w5.heap.size, 0, none⟩ 1 1 [.int .u8 o] rfl rfl (one_new _ _ _) (one_byte _) (by unfold maxLen; omega) (by omega) (by have := hG1.size; simp; omega) ?_; intro v2 w6 ho2 hg2 _; have HG6 : Hid (W.grownBy w6 none) := hide ((hG1.trans (World.grownBy_alloc _ _ _)).andThen hg2 (fun k hk => .inl (ho1.lt k hk).1)); obtain ⟨A6, c6, rfl, hA6, hc6, hf6, hs6⟩ := own_seen ho2)
      | (refine wp_append_own _ (.tmp 14) (.tmp 18) 22 rfl W.heap.size 5 i0 (.int .u8 0) 1 1 Tryd.underlying22 hi' hz0 hz1 hz2 rfl (by decide) v1 (0 + n) ([] ++ cellsU8 zs) rfl ho1 ⟨W.heap.size, 0, none⟩ 1 1 [.int .u8 o] rfl rfl (fun j u hu => by rw [WideShapes.add_plain, Nat.zero_add]; exact hN1.cell hu) (one_byte _) (by unfold maxLen; omega) (by omega) hG1.size ?_; intro v2 w6 ho2 hg2 _; have HG6 : Hid (W.grownBy w6 none) := hide (hG1.andThen hg2 (fun k hk => .inl (ho1.lt k hk).1)); obtain ⟨A6, c6, rfl, hA6, hc6, hf6, hs6⟩ := own_seen ho2))
  all_goals
    simp only [Nat.zero_add] at ho2
    have hb6 := hide (show Below w.heap.size w w6 from hbW.out.grown HG6.out hbW.out.size (fun k hk => by cases hk))
    have rx0 := hide (rx.out.grown HG6.out (fun e => by cases e))
    have O0 := hide (show w6.ownsRow (w.heap.size + 1) 5 1 (.slice A6 (n + 1) c6) (n + 1) (cellsU8 (zs ++ [o])) by rw [cellsU8_app, hWs]; exact ho2)
    have hA0 := hide hA6
    clear ho2 hg2 ho1 hg1 hG1 hc6 hf6 hs6 hA6 y0 y0'
    have g1 := rx0.out.cell (k := 1) rfl
    have l10_1 := lenv_le a.toNat (by omega)
    go_wp2_with fail
    refine (refput_any A6 (n + 1) c6 (zs ++ [o]) a w6.heap.size w6 hA0 (hide (by have := own_len O0.out; simpa [cellsU8] using this)) (by omega) (Sees.own O0.out) (by omega) (by omega)).mono ?_
    rintro e wq1 ⟨r1, rfl, hoq, hbq⟩
    obtain ⟨Aq1, cq1, rfl, haq, -, -, -⟩ := own_seen hoq
    have hs1 := hb6.out.size
    have hss1 := hbq.size
    have Oq1 := hide (own_less hoq (show w.heap.size + 1 ≤ w6.heap.size by have := rx0.out.lt; omega))
    have aq1 := hide haq
    have rq1 := hide (rx0.out.call hbq)
    have bq1 := hide (hb6.out.trans (hbq.mono hb6.out.size))
    clear hoq hbq haq g1
    have g2 := rq1.out.cell (k := 2) rfl
    have l10_2 := lenv_le p.toNat (by omega)
    go_wp2_with fail
    refine (refput_any Aq1 (n + 1 + lenv a.toNat) cq1 ((zs ++ [o]) ++ digsI a.toNat) p wq1.heap.size wq1 aq1 (hide (by have := own_len Oq1.out; simpa [cellsU8] using this)) (by omega) (Sees.own Oq1.out) (by omega) (by omega)).mono ?_
    rintro e wq2 ⟨r2, rfl, hoq, hbq⟩
    obtain ⟨Aq2, cq2, rfl, haq, -, -, -⟩ := own_seen hoq
    have hs2 := bq1.out.size
    have hss2 := hbq.size
    have Oq2 := hide (own_less hoq (show w.heap.size + 1 ≤ wq1.heap.size by have := rq1.out.lt; omega))
    have aq2 := hide haq
    have rq2 := hide (rq1.out.call hbq)
    have bq2 := hide (bq1.out.trans (hbq.mono bq1.out.size))
    clear hoq hbq haq g2
    have g3 := rq2.out.cell (k := 3) rfl
    have l10_3 := lenv_le d.toNat (by omega)
    go_wp2_with fail
    refine (refput_any Aq2 (n + 1 + lenv a.toNat + lenv p.toNat) cq2 (((zs ++ [o]) ++ digsI a.toNat) ++ digsI p.toNat) d wq2.heap.size wq2 aq2 (hide (by have := own_len Oq2.out; simpa [cellsU8] using this)) (by omega) (Sees.own Oq2.out) (by omega) (by omega)).mono ?_
    rintro e wq3 ⟨r3, rfl, hoq, hbq⟩
    obtain ⟨Aq3, cq3, rfl, haq, -, -, -⟩ := own_seen hoq
    have hs3 := bq2.out.size
    have hss3 := hbq.size
    have Oq3 := hide (own_less hoq (show w.heap.size + 1 ≤ wq2.heap.size by have := rq2.out.lt; omega))
    have aq3 := hide haq
    have rq3 := hide (rq2.out.call hbq)
    have bq3 := hide (bq2.out.trans (hbq.mono bq2.out.size))
    clear hoq hbq haq g3
    have FIN := hide (show wq3.ownsRow w.heap.size 5 1 (.slice Aq3 (n + 1 + lenv a.toNat + lenv p.toNat + lenv d.toNat) cq3) (n + 1 + lenv a.toNat + lenv p.toNat + lenv d.toNat) (cellsU8 (zs ++ (o :: opsY true true true false ⟨o, a, p, d, m⟩))) by
      rw [show zs ++ (o :: opsY true true true false ⟨o, a, p, d, m⟩) = ((((zs ++ [o]) ++ digsI a.toNat) ++ digsI p.toNat) ++ digsI d.toNat) by simp [opsY, optY]]
      exact own_less Oq3.out (by omega))
    have HB := hide bq3.out
    have HLL := hide (show n + 1 + lenv a.toNat + lenv p.toNat + lenv d.toNat = n + 1 + (opsY true true true false ⟨o, a, p, d, m⟩).length by simp [opsY, optY, digsI_length]; try omega)
    go_wp2
    go_ret
    first
      | exact ⟨_, _, rfl, HLL.out, FIN.out, HB.out⟩
      | exact ⟨_, rfl, by rw [← HLL.out]; exact FIN.out, HB.out⟩

set_option maxRecDepth 100000 in
set_option maxHeartbeats 4000000 in
theorem rputi_aa (A : Option Addr) (n c : Nat) (zs : List Int) (o a p d m : Int) (B : Nat) (w : World) (hA : Hid (A = none → c = 0)) (hnc : Hid (n ≤ c)) (hn : Hid (zs.length = n)) (hm : n ≤ 1073741824) (hs : Hid (Sees w B A (cellsU8 zs))) (hB : Hid (B ≤ w.heap.size)) (h0 : 0 ≤ o) (h1 : o ≤ 255) (ha : 0 ≤ a ∧ a ≤ 2147483647) (hp : 0 ≤ p ∧ p ≤ 2147483647) (hd : 0 ≤ d ∧ d ≤ 2147483647) (hi : 0 ≤ m ∧ m ≤ 18446744073709551615) :
    Calls Tryd.prog 41 #[.slice A n c, iv o a p d m, .bool true, .bool true, .bool false, .bool false] w fun e w' => ∃ r l, e = .returned r ∧ l = n + 1 + (opsY true true false false ⟨o, a, p, d, m⟩).length ∧ w'.ownsRow w.heap.size 5 1 r l (cellsU8 (zs ++ (o :: opsY true true false false ⟨o, a, p, d, m⟩))) ∧ Below w.heap.size w w' := by
  obtain ⟨i0, hi', hz0, hz1, hz2⟩ := info_parts Tryd.info5
  have hl0 := hn.out
  obtain ⟨W, hW⟩ : ∃ W, w.alloc (.cells #[.int .i64 o, .int .i64 a, .int .i64 p, .int .i64 d, .int .u64 m] 65) = W := ⟨_, rfl⟩
  have HW := hide hW
  have rx := hide (show Row W w.heap.size 65 [.int .i64 o, .int .i64 a, .int .i64 p, .int .i64 d, .int .u64 m] by rw [← hW]; exact Row.new w _ _)
  have hbW := hide (show Below w.heap.size w W by rw [← hW]; exact below1 w _)
  have hsW := hide (show Sees W W.heap.size A (cellsU8 zs) by rw [← hW]; exact (hs.out.alloc hB.out _).more (by have := hB.out; simp; omega))
  have hWs : w.heap.size + 1 = W.heap.size := by rw [← hW]; simp
  clear hW
  have HCL := hide (show (cellsU8 zs).length = n * 1 by have := hn.out; simp [cellsU8]; omega)
  have y0 := rx.out.cell (k := 0) rfl
  have y0' : ∀ ob : Obj, (W.alloc ob).cell? ⟨w.heap.size, 0, none⟩ = some (.int .i64 o) := fun ob => (rx.out.alloc ob).cell (k := 0) rfl
  have ho256 : IntKind.u8.wrap o = o := by rw [IntKind.wrap_u8']; omega
  have hwa : IntKind.u64.wrap a = a := wrap_u64_in _ (by omega) (by omega)
  have hwp : IntKind.u64.wrap p = p := wrap_u64_in _ (by omega) (by omega)
  have hwd : IntKind.u64.wrap d = d := wrap_u64_in _ (by omega) (by omega)
  have hwl : W.heap.size = W.heap.size := rfl
  go_enter Tryd.func41, Tryd.ntmps41
  go_upto_region 1 with (fail)
  rw [HW.out]
  clear HW
  go_region_law
    (first
      | (refine wp_append_seesN (.const (.slice none 0 0)) (.tmp 13) 22 rfl W.heap.size 5 i0 (.int .u8 0) 1 1 Tryd.underlying22 hi' hz0 hz1 hz2 rfl (by decide) (.slice none 0 0) 0 [] rfl (World.ownsRow_nil _ _ _ _) W.heap.size A n c (cellsU8 zs) rfl hA HCL (hide (hsW.out.draws 1)) hnc (one_u8 _) (by unfold maxLen; omega) (by omega) (Nat.le_refl _) ?_; intro v1 w5 ho1 hg1; have hG1 : W.grownBy w5 none := (grown_draws (World.grownBy.refl W none) 1).trans hg1; have s20 := (rx.out.grown hG1 (fun e => by cases e)).cell (k := 0) rfl)
      | (refine wp_append_seesN (.const (.slice none 0 0)) (.tmp 13) 22 rfl W.heap.size 5 i0 (.int .u8 0) 1 1 Tryd.underlying22 hi' hz0 hz1 hz2 rfl (by decide) (.slice none 0 0) 0 [] rfl (World.ownsRow_nil _ _ _ _) W.heap.size A n c (cellsU8 zs) rfl hA HCL (hide ((hsW.out.draws 1).alloc (Nat.le_refl _) _)) hnc (one_u8 _) (by unfold maxLen; omega) (by omega) (by simp) ?_; intro v1 w5 ho1 hg1; have hG1 : W.grownBy w5 none := ((grown_draws (World.grownBy.refl W none) 1).trans (World.grownBy_alloc _ _ _)).trans hg1; have hN1 := ((Row.new (W.drewN 1) 5 [.int .u8 o]).at_ (g' := W.heap.size) rfl).grown hg1 (fun e => by cases e))
      | (refine wp_append_own _ (.tmp 14) (.tmp 18) 22 rfl W.heap.size 5 i0 (.int .u8 0) 1 1 Tryd.underlying22 hi' hz0 hz1 hz2 rfl (by decide) v1 (0 + n) ([] ++ cellsU8 zs) rfl (ho1.alloc _) ⟨w5.heap.size, 0, none⟩ 1 1 [.int .u8 o] rfl rfl (one_new _ _ _) (one_byte _) (by unfold maxLen; omega) (by omega) (by have := hG1.size; simp; omega) ?_; intro v2 w6 ho2 hg2 _; have HG6 : Hid (W.grownBy w6 none) := hide ((hG1.trans (World.grownBy_alloc _ _ _)).andThen hg2 (fun k hk => .inl (ho1.lt k hk).1)); obtain ⟨A6, c6, rfl, hA6, hc6, hf6, hs6⟩ := own_seen ho2)
      | (refine wp_append_own _ (.tmp 14) (.tmp 18) 22 rfl W.heap.size 5 i0 (.int .u8 0) 1 1 Tryd.underlying22 hi' hz0 hz1 hz2 rfl (by decide) v1 (0 + n) ([] ++ cellsU8 zs) rfl ho1 ⟨W.heap.size, 0, none⟩ 1 1 [.int .u8 o] rfl rfl (fun j u hu => by rw [WideShapes.add_plain, Nat.zero_add]; exact hN1.cell hu) (one_byte _) (by unfold maxLen; omega) (by omega) hG1.size ?_; intro v2 w6 ho2 hg2 _; have HG6 : Hid (W.grownBy w6 none) := hide (hG1.andThen hg2 (fun k hk => .inl (ho1.lt k hk).1)); obtain ⟨A6, c6, rfl, hA6, hc6, hf6, hs6⟩ := own_seen ho2))
  all_goals
    simp only [Nat.zero_add] at ho2
    have hb6 := hide (show Below w.heap.size w w6 from hbW.out.grown HG6.out hbW.out.size (fun k hk => by cases hk))
    have rx0 := hide (rx.out.grown HG6.out (fun e => by cases e))
    have O0 := hide (show w6.ownsRow (w.heap.size + 1) 5 1 (.slice A6 (n + 1) c6) (n + 1) (cellsU8 (zs ++ [o])) by rw [cellsU8_app, hWs]; exact ho2)
    have hA0 := hide hA6
    clear ho2 hg2 ho1 hg1 hG1 hc6 hf6 hs6 hA6 y0 y0'
    have g1 := rx0.out.cell (k := 1) rfl
    have l10_1 := lenv_le a.toNat (by omega)
    go_wp2_with fail
    refine (refput_any A6 (n + 1) c6 (zs ++ [o]) a w6.heap.size w6 hA0 (hide (by have := own_len O0.out; simpa [cellsU8] using this)) (by omega) (Sees.own O0.out) (by omega) (by omega)).mono ?_
    rintro e wq1 ⟨r1, rfl, hoq, hbq⟩
    obtain ⟨Aq1, cq1, rfl, haq, -, -, -⟩ := own_seen hoq
    have hs1 := hb6.out.size
    have hss1 := hbq.size
    have Oq1 := hide (own_less hoq (show w.heap.size + 1 ≤ w6.heap.size by have := rx0.out.lt; omega))
    have aq1 := hide haq
    have rq1 := hide (rx0.out.call hbq)
    have bq1 := hide (hb6.out.trans (hbq.mono hb6.out.size))
    clear hoq hbq haq g1
    have g2 := rq1.out.cell (k := 2) rfl
    have l10_2 := lenv_le p.toNat (by omega)
    go_wp2_with fail
    refine (refput_any Aq1 (n + 1 + lenv a.toNat) cq1 ((zs ++ [o]) ++ digsI a.toNat) p wq1.heap.size wq1 aq1 (hide (by have := own_len Oq1.out; simpa [cellsU8] using this)) (by omega) (Sees.own Oq1.out) (by omega) (by omega)).mono ?_
    rintro e wq2 ⟨r2, rfl, hoq, hbq⟩
    obtain ⟨Aq2, cq2, rfl, haq, -, -, -⟩ := own_seen hoq
    have hs2 := bq1.out.size
    have hss2 := hbq.size
    have Oq2 := hide (own_less hoq (show w.heap.size + 1 ≤ wq1.heap.size by have := rq1.out.lt; omega))
    have aq2 := hide haq
    have rq2 := hide (rq1.out.call hbq)
    have bq2 := hide (bq1.out.trans (hbq.mono bq1.out.size))
    clear hoq hbq haq g2
    have FIN := hide (show wq2.ownsRow w.heap.size 5 1 (.slice Aq2 (n + 1 + lenv a.toNat + lenv p.toNat) cq2) (n + 1 + lenv a.toNat + lenv p.toNat) (cellsU8 (zs ++ (o :: opsY true true false false ⟨o, a, p, d, m⟩))) by
      rw [show zs ++ (o :: opsY true true false false ⟨o, a, p, d, m⟩) = (((zs ++ [o]) ++ digsI a.toNat) ++ digsI p.toNat) by simp [opsY, optY]]
      exact own_less Oq2.out (by omega))
    have HB := hide bq2.out
    have HLL := hide (show n + 1 + lenv a.toNat + lenv p.toNat = n + 1 + (opsY true true false false ⟨o, a, p, d, m⟩).length by simp [opsY, optY, digsI_length]; try omega)
    go_wp2
    go_ret
    first
      | exact ⟨_, _, rfl, HLL.out, FIN.out, HB.out⟩
      | exact ⟨_, rfl, by rw [← HLL.out]; exact FIN.out, HB.out⟩

set_option maxRecDepth 100000 in
set_option maxHeartbeats 4000000 in
theorem rputi_a (A : Option Addr) (n c : Nat) (zs : List Int) (o a p d m : Int) (B : Nat) (w : World) (hA : Hid (A = none → c = 0)) (hnc : Hid (n ≤ c)) (hn : Hid (zs.length = n)) (hm : n ≤ 1073741824) (hs : Hid (Sees w B A (cellsU8 zs))) (hB : Hid (B ≤ w.heap.size)) (h0 : 0 ≤ o) (h1 : o ≤ 255) (ha : 0 ≤ a ∧ a ≤ 2147483647) (hp : 0 ≤ p ∧ p ≤ 2147483647) (hd : 0 ≤ d ∧ d ≤ 2147483647) (hi : 0 ≤ m ∧ m ≤ 18446744073709551615) :
    Calls Tryd.prog 41 #[.slice A n c, iv o a p d m, .bool true, .bool false, .bool false, .bool false] w fun e w' => ∃ r l, e = .returned r ∧ l = n + 1 + (opsY true false false false ⟨o, a, p, d, m⟩).length ∧ w'.ownsRow w.heap.size 5 1 r l (cellsU8 (zs ++ (o :: opsY true false false false ⟨o, a, p, d, m⟩))) ∧ Below w.heap.size w w' := by
  obtain ⟨i0, hi', hz0, hz1, hz2⟩ := info_parts Tryd.info5
  have hl0 := hn.out
  obtain ⟨W, hW⟩ : ∃ W, w.alloc (.cells #[.int .i64 o, .int .i64 a, .int .i64 p, .int .i64 d, .int .u64 m] 65) = W := ⟨_, rfl⟩
  have HW := hide hW
  have rx := hide (show Row W w.heap.size 65 [.int .i64 o, .int .i64 a, .int .i64 p, .int .i64 d, .int .u64 m] by rw [← hW]; exact Row.new w _ _)
  have hbW := hide (show Below w.heap.size w W by rw [← hW]; exact below1 w _)
  have hsW := hide (show Sees W W.heap.size A (cellsU8 zs) by rw [← hW]; exact (hs.out.alloc hB.out _).more (by have := hB.out; simp; omega))
  have hWs : w.heap.size + 1 = W.heap.size := by rw [← hW]; simp
  clear hW
  have HCL := hide (show (cellsU8 zs).length = n * 1 by have := hn.out; simp [cellsU8]; omega)
  have y0 := rx.out.cell (k := 0) rfl
  have y0' : ∀ ob : Obj, (W.alloc ob).cell? ⟨w.heap.size, 0, none⟩ = some (.int .i64 o) := fun ob => (rx.out.alloc ob).cell (k := 0) rfl
  have ho256 : IntKind.u8.wrap o = o := by rw [IntKind.wrap_u8']; omega
  have hwa : IntKind.u64.wrap a = a := wrap_u64_in _ (by omega) (by omega)
  have hwp : IntKind.u64.wrap p = p := wrap_u64_in _ (by omega) (by omega)
  have hwd : IntKind.u64.wrap d = d := wrap_u64_in _ (by omega) (by omega)
  have hwl : W.heap.size = W.heap.size := rfl
  go_enter Tryd.func41, Tryd.ntmps41
  go_upto_region 1 with (fail)
  rw [HW.out]
  clear HW
  go_region_law
    (first
      | (refine wp_append_seesN (.const (.slice none 0 0)) (.tmp 13) 22 rfl W.heap.size 5 i0 (.int .u8 0) 1 1 Tryd.underlying22 hi' hz0 hz1 hz2 rfl (by decide) (.slice none 0 0) 0 [] rfl (World.ownsRow_nil _ _ _ _) W.heap.size A n c (cellsU8 zs) rfl hA HCL (hide (hsW.out.draws 1)) hnc (one_u8 _) (by unfold maxLen; omega) (by omega) (Nat.le_refl _) ?_; intro v1 w5 ho1 hg1; have hG1 : W.grownBy w5 none := (grown_draws (World.grownBy.refl W none) 1).trans hg1; have s20 := (rx.out.grown hG1 (fun e => by cases e)).cell (k := 0) rfl)
      | (refine wp_append_seesN (.const (.slice none 0 0)) (.tmp 13) 22 rfl W.heap.size 5 i0 (.int .u8 0) 1 1 Tryd.underlying22 hi' hz0 hz1 hz2 rfl (by decide) (.slice none 0 0) 0 [] rfl (World.ownsRow_nil _ _ _ _) W.heap.size A n c (cellsU8 zs) rfl hA HCL (hide ((hsW.out.draws 1).alloc (Nat.le_refl _) _)) hnc (one_u8 _) (by unfold maxLen; omega) (by omega) (by simp) ?_; intro v1 w5 ho1 hg1; have hG1 : W.grownBy w5 none := ((grown_draws (World.grownBy.refl W none) 1).trans (World.grownBy_alloc _ _ _)).trans hg1; have hN1 := ((Row.new (W.drewN 1) 5 [.int .u8 o]).at_ (g' := W.heap.size) rfl).grown hg1 (fun e => by cases e))
      | (refine wp_append_own _ (.tmp 14) (.tmp 18) 22 rfl W.heap.size 5 i0 (.int .u8 0) 1 1 Tryd.underlying22 hi' hz0 hz1 hz2 rfl (by decide) v1 (0 + n) ([] ++ cellsU8 zs) rfl (ho1.alloc _) ⟨w5.heap.size, 0, none⟩ 1 1 [.int .u8 o] rfl rfl (one_new _ _ _) (one_byte _) (by unfold maxLen; omega) (by omega) (by have := hG1.size; simp; omega) ?_; intro v2 w6 ho2 hg2 _; have HG6 : Hid (W.grownBy w6 none) := hide ((hG1.trans (World.grownBy_alloc _ _ _)).andThen hg2 (fun k hk => .inl (ho1.lt k hk).1)); obtain ⟨A6, c6, rfl, hA6, hc6, hf6, hs6⟩ := own_seen ho2)
      | (refine wp_append_own _ (.tmp 14) (.tmp 18) 22 rfl W.heap.size 5 i0 (.int .u8 0) 1 1 Tryd.underlying22 hi' hz0 hz1 hz2 rfl (by decide) v1 (0 + n) ([] ++ cellsU8 zs) rfl ho1 ⟨W.heap.size, 0, none⟩ 1 1 [.int .u8 o] rfl rfl (fun j u hu => by rw [WideShapes.add_plain, Nat.zero_add]; exact hN1.cell hu) (one_byte _) (by unfold maxLen; omega) (by omega) hG1.size ?_; intro v2 w6 ho2 hg2 _; have HG6 : Hid (W.grownBy w6 none) := hide (hG1.andThen hg2 (fun k hk => .inl (ho1.lt k hk).1)); obtain ⟨A6, c6, rfl, hA6, hc6, hf6, hs6⟩ := own_seen ho2))
  all_goals
    simp only [Nat.zero_add] at ho2
    have hb6 := hide (show Below w.heap.size w w6 from hbW.out.grown HG6.out hbW.out.size (fun k hk => by cases hk))
    have rx0 := hide (rx.out.grown HG6.out (fun e => by cases e))
    have O0 := hide (show w6.ownsRow (w.heap.size + 1) 5 1 (.slice A6 (n + 1) c6) (n + 1) (cellsU8 (zs ++ [o])) by rw [cellsU8_app, hWs]; exact ho2)
    have hA0 := hide hA6
    clear ho2 hg2 ho1 hg1 hG1 hc6 hf6 hs6 hA6 y0 y0'
    have g1 := rx0.out.cell (k := 1) rfl
    have l10_1 := lenv_le a.toNat (by omega)
    go_wp2_with fail
    refine (refput_any A6 (n + 1) c6 (zs ++ [o]) a w6.heap.size w6 hA0 (hide (by have := own_len O0.out; simpa [cellsU8] using this)) (by omega) (Sees.own O0.out) (by omega) (by omega)).mono ?_
    rintro e wq1 ⟨r1, rfl, hoq, hbq⟩
    obtain ⟨Aq1, cq1, rfl, haq, -, -, -⟩ := own_seen hoq
    have hs1 := hb6.out.size
    have hss1 := hbq.size
    have Oq1 := hide (own_less hoq (show w.heap.size + 1 ≤ w6.heap.size by have := rx0.out.lt; omega))
    have aq1 := hide haq
    have rq1 := hide (rx0.out.call hbq)
    have bq1 := hide (hb6.out.trans (hbq.mono hb6.out.size))
    clear hoq hbq haq g1
    have FIN := hide (show wq1.ownsRow w.heap.size 5 1 (.slice Aq1 (n + 1 + lenv a.toNat) cq1) (n + 1 + lenv a.toNat) (cellsU8 (zs ++ (o :: opsY true false false false ⟨o, a, p, d, m⟩))) by
      rw [show zs ++ (o :: opsY true false false false ⟨o, a, p, d, m⟩) = ((zs ++ [o]) ++ digsI a.toNat) by simp [opsY, optY]]
      exact own_less Oq1.out (by omega))
    have HB := hide bq1.out
    have HLL := hide (show n + 1 + lenv a.toNat = n + 1 + (opsY true false false false ⟨o, a, p, d, m⟩).length by simp [opsY, optY, digsI_length]; try omega)
    go_wp2
    go_ret
    first
      | exact ⟨_, _, rfl, HLL.out, FIN.out, HB.out⟩
      | exact ⟨_, rfl, by rw [← HLL.out]; exact FIN.out, HB.out⟩

set_option maxRecDepth 100000 in
set_option maxHeartbeats 4000000 in
theorem rputi_ai (A : Option Addr) (n c : Nat) (zs : List Int) (o a p d m : Int) (B : Nat) (w : World) (hA : Hid (A = none → c = 0)) (hnc : Hid (n ≤ c)) (hn : Hid (zs.length = n)) (hm : n ≤ 1073741824) (hs : Hid (Sees w B A (cellsU8 zs))) (hB : Hid (B ≤ w.heap.size)) (h0 : 0 ≤ o) (h1 : o ≤ 255) (ha : 0 ≤ a ∧ a ≤ 2147483647) (hp : 0 ≤ p ∧ p ≤ 2147483647) (hd : 0 ≤ d ∧ d ≤ 2147483647) (hi : 0 ≤ m ∧ m ≤ 18446744073709551615) :
    Calls Tryd.prog 41 #[.slice A n c, iv o a p d m, .bool true, .bool false, .bool false, .bool true] w fun e w' => ∃ r l, e = .returned r ∧ l = n + 1 + (opsY true false false true ⟨o, a, p, d, m⟩).length ∧ w'.ownsRow w.heap.size 5 1 r l (cellsU8 (zs ++ (o :: opsY true false false true ⟨o, a, p, d, m⟩))) ∧ Below w.heap.size w w' := by
  obtain ⟨i0, hi', hz0, hz1, hz2⟩ := info_parts Tryd.info5
  have hl0 := hn.out
  obtain ⟨W, hW⟩ : ∃ W, w.alloc (.cells #[.int .i64 o, .int .i64 a, .int .i64 p, .int .i64 d, .int .u64 m] 65) = W := ⟨_, rfl⟩
  have HW := hide hW
  have rx := hide (show Row W w.heap.size 65 [.int .i64 o, .int .i64 a, .int .i64 p, .int .i64 d, .int .u64 m] by rw [← hW]; exact Row.new w _ _)
  have hbW := hide (show Below w.heap.size w W by rw [← hW]; exact below1 w _)
  have hsW := hide (show Sees W W.heap.size A (cellsU8 zs) by rw [← hW]; exact (hs.out.alloc hB.out _).more (by have := hB.out; simp; omega))
  have hWs : w.heap.size + 1 = W.heap.size := by rw [← hW]; simp
  clear hW
  have HCL := hide (show (cellsU8 zs).length = n * 1 by have := hn.out; simp [cellsU8]; omega)
  have y0 := rx.out.cell (k := 0) rfl
  have y0' : ∀ ob : Obj, (W.alloc ob).cell? ⟨w.heap.size, 0, none⟩ = some (.int .i64 o) := fun ob => (rx.out.alloc ob).cell (k := 0) rfl
  have ho256 : IntKind.u8.wrap o = o := by rw [IntKind.wrap_u8']; omega
  have hwa : IntKind.u64.wrap a = a := wrap_u64_in _ (by omega) (by omega)
  have hwp : IntKind.u64.wrap p = p := wrap_u64_in _ (by omega) (by omega)
  have hwd : IntKind.u64.wrap d = d := wrap_u64_in _ (by omega) (by omega)
  have hwl : W.heap.size = W.heap.size := rfl
  go_enter Tryd.func41, Tryd.ntmps41
  go_upto_region 1 with (fail)
  rw [HW.out]
  clear HW
  go_region_law
    (first
      | (refine wp_append_seesN (.const (.slice none 0 0)) (.tmp 13) 22 rfl W.heap.size 5 i0 (.int .u8 0) 1 1 Tryd.underlying22 hi' hz0 hz1 hz2 rfl (by decide) (.slice none 0 0) 0 [] rfl (World.ownsRow_nil _ _ _ _) W.heap.size A n c (cellsU8 zs) rfl hA HCL (hide (hsW.out.draws 1)) hnc (one_u8 _) (by unfold maxLen; omega) (by omega) (Nat.le_refl _) ?_; intro v1 w5 ho1 hg1; have hG1 : W.grownBy w5 none := (grown_draws (World.grownBy.refl W none) 1).trans hg1; have s20 := (rx.out.grown hG1 (fun e => by cases e)).cell (k := 0) rfl)
      | (refine wp_append_seesN (.const (.slice none 0 0)) (.tmp 13) 22 rfl W.heap.size 5 i0 (.int .u8 0) 1 1 Tryd.underlying22 hi' hz0 hz1 hz2 rfl (by decide) (.slice none 0 0) 0 [] rfl (World.ownsRow_nil _ _ _ _) W.heap.size A n c (cellsU8 zs) rfl hA HCL (hide ((hsW.out.draws 1).alloc (Nat.le_refl _) _)) hnc (one_u8 _) (by unfold maxLen; omega) (by omega) (by simp) ?_; intro v1 w5 ho1 hg1; have hG1 : W.grownBy w5 none := ((grown_draws (World.grownBy.refl W none) 1).trans (World.grownBy_alloc _ _ _)).trans hg1; have hN1 := ((Row.new (W.drewN 1) 5 [.int .u8 o]).at_ (g' := W.heap.size) rfl).grown hg1 (fun e => by cases e))
      | (refine wp_append_own _ (.tmp 14) (.tmp 18) 22 rfl W.heap.size 5 i0 (.int .u8 0) 1 1 Tryd.underlying22 hi' hz0 hz1 hz2 rfl (by decide) v1 (0 + n) ([] ++ cellsU8 zs) rfl (ho1.alloc _) ⟨w5.heap.size, 0, none⟩ 1 1 [.int .u8 o] rfl rfl (one_new _ _ _) (one_byte _) (by unfold maxLen; omega) (by omega) (by have := hG1.size; simp; omega) ?_; intro v2 w6 ho2 hg2 _; have HG6 : Hid (W.grownBy w6 none) := hide ((hG1.trans (World.grownBy_alloc _ _ _)).andThen hg2 (fun k hk => .inl (ho1.lt k hk).1)); obtain ⟨A6, c6, rfl, hA6, hc6, hf6, hs6⟩ := own_seen ho2)
      | (refine wp_append_own _ (.tmp 14) (.tmp 18) 22 rfl W.heap.size 5 i0 (.int .u8 0) 1 1 Tryd.underlying22 hi' hz0 hz1 hz2 rfl (by decide) v1 (0 + n) ([] ++ cellsU8 zs) rfl ho1 ⟨W.heap.size, 0, none⟩ 1 1 [.int .u8 o] rfl rfl (fun j u hu => by rw [WideShapes.add_plain, Nat.zero_add]; exact hN1.cell hu) (one_byte _) (by unfold maxLen; omega) (by omega) hG1.size ?_; intro v2 w6 ho2 hg2 _; have HG6 : Hid (W.grownBy w6 none) := hide (hG1.andThen hg2 (fun k hk => .inl (ho1.lt k hk).1)); obtain ⟨A6, c6, rfl, hA6, hc6, hf6, hs6⟩ := own_seen ho2))
  all_goals
    simp only [Nat.zero_add] at ho2
    have hb6 := hide (show Below w.heap.size w w6 from hbW.out.grown HG6.out hbW.out.size (fun k hk => by cases hk))
    have rx0 := hide (rx.out.grown HG6.out (fun e => by cases e))
    have O0 := hide (show w6.ownsRow (w.heap.size + 1) 5 1 (.slice A6 (n + 1) c6) (n + 1) (cellsU8 (zs ++ [o])) by rw [cellsU8_app, hWs]; exact ho2)
    have hA0 := hide hA6
    clear ho2 hg2 ho1 hg1 hG1 hc6 hf6 hs6 hA6 y0 y0'
    have g1 := rx0.out.cell (k := 1) rfl
    have l10_1 := lenv_le a.toNat (by omega)
    go_wp2_with fail
    refine (refput_any A6 (n + 1) c6 (zs ++ [o]) a w6.heap.size w6 hA0 (hide (by have := own_len O0.out; simpa [cellsU8] using this)) (by omega) (Sees.own O0.out) (by omega) (by omega)).mono ?_
    rintro e wq1 ⟨r1, rfl, hoq, hbq⟩
    obtain ⟨Aq1, cq1, rfl, haq, -, -, -⟩ := own_seen hoq
    have hs1 := hb6.out.size
    have hss1 := hbq.size
    have Oq1 := hide (own_less hoq (show w.heap.size + 1 ≤ w6.heap.size by have := rx0.out.lt; omega))
    have aq1 := hide haq
    have rq1 := hide (rx0.out.call hbq)
    have bq1 := hide (hb6.out.trans (hbq.mono hb6.out.size))
    clear hoq hbq haq g1
    have g2 := rq1.out.cell (k := 4) rfl
    have l10_2 := lenv_le m.toNat (by omega)
    go_wp2_with fail
    refine (refput_any Aq1 (n + 1 + lenv a.toNat) cq1 ((zs ++ [o]) ++ digsI a.toNat) m wq1.heap.size wq1 aq1 (hide (by have := own_len Oq1.out; simpa [cellsU8] using this)) (by omega) (Sees.own Oq1.out) (by omega) (by omega)).mono ?_
    rintro e wq2 ⟨r2, rfl, hoq, hbq⟩
    obtain ⟨Aq2, cq2, rfl, haq, -, -, -⟩ := own_seen hoq
    have hs2 := bq1.out.size
    have hss2 := hbq.size
    have Oq2 := hide (own_less hoq (show w.heap.size + 1 ≤ wq1.heap.size by have := rq1.out.lt; omega))
    have aq2 := hide haq
    have rq2 := hide (rq1.out.call hbq)
    have bq2 := hide (bq1.out.trans (hbq.mono bq1.out.size))
    clear hoq hbq haq g2
    have FIN := hide (show wq2.ownsRow w.heap.size 5 1 (.slice Aq2 (n + 1 + lenv a.toNat + lenv m.toNat) cq2) (n + 1 + lenv a.toNat + lenv m.toNat) (cellsU8 (zs ++ (o :: opsY true false false true ⟨o, a, p, d, m⟩))) by
      rw [show zs ++ (o :: opsY true false false true ⟨o, a, p, d, m⟩) = (((zs ++ [o]) ++ digsI a.toNat) ++ digsI m.toNat) by simp [opsY, optY]]
      exact own_less Oq2.out (by omega))
    have HB := hide bq2.out
    have HLL := hide (show n + 1 + lenv a.toNat + lenv m.toNat = n + 1 + (opsY true false false true ⟨o, a, p, d, m⟩).length by simp [opsY, optY, digsI_length]; try omega)
    go_wp2
    go_ret
    first
      | exact ⟨_, _, rfl, HLL.out, FIN.out, HB.out⟩
      | exact ⟨_, rfl, by rw [← HLL.out]; exact FIN.out, HB.out⟩

set_option maxRecDepth 100000 in
set_option maxHeartbeats 4000000 in
theorem rputi_i (A : Option Addr) (n c : Nat) (zs : List Int) (o a p d m : Int) (B : Nat) (w : World) (hA : Hid (A = none → c = 0)) (hnc : Hid (n ≤ c)) (hn : Hid (zs.length = n)) (hm : n ≤ 1073741824) (hs : Hid (Sees w B A (cellsU8 zs))) (hB : Hid (B ≤ w.heap.size)) (h0 : 0 ≤ o) (h1 : o ≤ 255) (ha : 0 ≤ a ∧ a ≤ 2147483647) (hp : 0 ≤ p ∧ p ≤ 2147483647) (hd : 0 ≤ d ∧ d ≤ 2147483647) (hi : 0 ≤ m ∧ m ≤ 18446744073709551615) :
    Calls Tryd.prog 41 #[.slice A n c, iv o a p d m, .bool false, .bool false, .bool false, .bool true] w fun e w' => ∃ r l, e = .returned r ∧ l = n + 1 + (opsY false false false true ⟨o, a, p, d, m⟩).length ∧ w'.ownsRow w.heap.size 5 1 r l (cellsU8 (zs ++ (o :: opsY false false false true ⟨o, a, p, d, m⟩))) ∧ Below w.heap.size w w' := by
  obtain ⟨i0, hi', hz0, hz1, hz2⟩ := info_parts Tryd.info5
  have hl0 := hn.out
  obtain ⟨W, hW⟩ : ∃ W, w.alloc (.cells #[.int .i64 o, .int .i64 a, .int .i64 p, .int .i64 d, .int .u64 m] 65) = W := ⟨_, rfl⟩
  have HW := hide hW
  have rx := hide (show Row W w.heap.size 65 [.int .i64 o, .int .i64 a, .int .i64 p, .int .i64 d, .int .u64 m] by rw [← hW]; exact Row.new w _ _)
  have hbW := hide (show Below w.heap.size w W by rw [← hW]; exact below1 w _)
  have hsW := hide (show Sees W W.heap.size A (cellsU8 zs) by rw [← hW]; exact (hs.out.alloc hB.out _).more (by have := hB.out; simp; omega))
  have hWs : w.heap.size + 1 = W.heap.size := by rw [← hW]; simp
  clear hW
  have HCL := hide (show (cellsU8 zs).length = n * 1 by have := hn.out; simp [cellsU8]; omega)
  have y0 := rx.out.cell (k := 0) rfl
  have y0' : ∀ ob : Obj, (W.alloc ob).cell? ⟨w.heap.size, 0, none⟩ = some (.int .i64 o) := fun ob => (rx.out.alloc ob).cell (k := 0) rfl
  have ho256 : IntKind.u8.wrap o = o := by rw [IntKind.wrap_u8']; omega
  have hwa : IntKind.u64.wrap a = a := wrap_u64_in _ (by omega) (by omega)
  have hwp : IntKind.u64.wrap p = p := wrap_u64_in _ (by omega) (by omega)
  have hwd : IntKind.u64.wrap d = d := wrap_u64_in _ (by omega) (by omega)
  have hwl : W.heap.size = W.heap.size := rfl
  go_enter Tryd.func41, Tryd.ntmps41
  go_upto_region 1 with (fail)
  rw [HW.out]
  clear HW
  go_region_law
    (first
      | (refine wp_append_seesN (.const (.slice none 0 0)) (.tmp 13) 22 rfl W.heap.size 5 i0 (.int .u8 0) 1 1 Tryd.underlying22 hi' hz0 hz1 hz2 rfl (by decide) (.slice none 0 0) 0 [] rfl (World.ownsRow_nil _ _ _ _) W.heap.size A n c (cellsU8 zs) rfl hA HCL (hide (hsW.out.draws 1)) hnc (one_u8 _) (by unfold maxLen; omega) (by omega) (Nat.le_refl _) ?_; intro v1 w5 ho1 hg1; have hG1 : W.grownBy w5 none := (grown_draws (World.grownBy.refl W none) 1).trans hg1; have s20 := (rx.out.grown hG1 (fun e => by cases e)).cell (k := 0) rfl)
      | (refine wp_append_seesN (.const (.slice none 0 0)) (.tmp 13) 22 rfl W.heap.size 5 i0 (.int .u8 0) 1 1 Tryd.underlying22 hi' hz0 hz1 hz2 rfl (by decide) (.slice none 0 0) 0 [] rfl (World.ownsRow_nil _ _ _ _) W.heap.size A n c (cellsU8 zs) rfl hA HCL (hide ((hsW.out.draws 1).alloc (Nat.le_refl _) _)) hnc (one_u8 _) (by unfold maxLen; omega) (by omega) (by simp) ?_; intro v1 w5 ho1 hg1; have hG1 : W.grownBy w5 none := ((grown_draws (World.grownBy.refl W none) 1).trans (World.grownBy_alloc _ _ _)).trans hg1; have hN1 := ((Row.new (W.drewN 1) 5 [.int .u8 o]).at_ (g' := W.heap.size) rfl).grown hg1 (fun e => by cases e))
      | (refine wp_append_own _ (.tmp 14) (.tmp 18) 22 rfl W.heap.size 5 i0 (.int .u8 0) 1 1 Tryd.underlying22 hi' hz0 hz1 hz2 rfl (by decide) v1 (0 + n) ([] ++ cellsU8 zs) rfl (ho1.alloc _) ⟨w5.heap.size, 0, none⟩ 1 1 [.int .u8 o] rfl rfl (one_new _ _ _) (one_byte _) (by unfold maxLen; omega) (by omega) (by have := hG1.size; simp; omega) ?_; intro v2 w6 ho2 hg2 _; have HG6 : Hid (W.grownBy w6 none) := hide ((hG1.trans (World.grownBy_alloc _ _ _)).andThen hg2 (fun k hk => .inl (ho1.lt k hk).1)); obtain ⟨A6, c6, rfl, hA6, hc6, hf6, hs6⟩ := own_seen ho2)
      | (refine wp_append_own _ (.tmp 14) (.tmp 18) 22 rfl W.heap.size 5 i0 (.int .u8 0) 1 1 Tryd.underlying22 hi' hz0 hz1 hz2 rfl (by decide) v1 (0 + n) ([] ++ cellsU8 zs) rfl ho1 ⟨W.heap.size, 0, none⟩ 1 1 [.int .u8 o] rfl rfl (fun j u hu => by rw [WideShapes.add_plain, Nat.zero_add]; exact hN1.cell hu) (one_byte _) (by unfold maxLen; omega) (by omega) hG1.size ?_; intro v2 w6 ho2 hg2 _; have HG6 : Hid (W.grownBy w6 none) := hide (hG1.andThen hg2 (fun k hk => .inl (ho1.lt k hk).1)); obtain ⟨A6, c6, rfl, hA6, hc6, hf6, hs6⟩ := own_seen ho2))
  all_goals
    simp only [Nat.zero_add] at ho2
    have hb6 := hide (show Below w.heap.size w w6 from hbW.out.grown HG6.out hbW.out.size (fun k hk => by cases hk))
    have rx0 := hide (rx.out.grown HG6.out (fun e => by cases e))
    have O0 := hide (show w6.ownsRow (w.heap.size + 1) 5 1 (.slice A6 (n + 1) c6) (n + 1) (cellsU8 (zs ++ [o])) by rw [cellsU8_app, hWs]; exact ho2)
    have hA0 := hide hA6
    clear ho2 hg2 ho1 hg1 hG1 hc6 hf6 hs6 hA6 y0 y0'
    have g1 := rx0.out.cell (k := 4) rfl
    have l10_1 := lenv_le m.toNat (by omega)
    go_wp2_with fail
    refine (refput_any A6 (n + 1) c6 (zs ++ [o]) m w6.heap.size w6 hA0 (hide (by have := own_len O0.out; simpa [cellsU8] using this)) (by omega) (Sees.own O0.out) (by omega) (by omega)).mono ?_
    rintro e wq1 ⟨r1, rfl, hoq, hbq⟩
    obtain ⟨Aq1, cq1, rfl, haq, -, -, -⟩ := own_seen hoq
    have hs1 := hb6.out.size
    have hss1 := hbq.size
    have Oq1 := hide (own_less hoq (show w.heap.size + 1 ≤ w6.heap.size by have := rx0.out.lt; omega))
    have aq1 := hide haq
    have rq1 := hide (rx0.out.call hbq)
    have bq1 := hide (hb6.out.trans (hbq.mono hb6.out.size))
    clear hoq hbq haq g1
    have FIN := hide (show wq1.ownsRow w.heap.size 5 1 (.slice Aq1 (n + 1 + lenv m.toNat) cq1) (n + 1 + lenv m.toNat) (cellsU8 (zs ++ (o :: opsY false false false true ⟨o, a, p, d, m⟩))) by
      rw [show zs ++ (o :: opsY false false false true ⟨o, a, p, d, m⟩) = ((zs ++ [o]) ++ digsI m.toNat) by simp [opsY, optY]]
      exact own_less Oq1.out (by omega))
    have HB := hide bq1.out
    have HLL := hide (show n + 1 + lenv m.toNat = n + 1 + (opsY false false false true ⟨o, a, p, d, m⟩).length by simp [opsY, optY, digsI_length]; try omega)
    go_wp2
    go_ret
    first
      | exact ⟨_, _, rfl, HLL.out, FIN.out, HB.out⟩
      | exact ⟨_, rfl, by rw [← HLL.out]; exact FIN.out, HB.out⟩

set_option maxRecDepth 100000 in
set_option maxHeartbeats 4000000 in
theorem rputi_o (A : Option Addr) (n c : Nat) (zs : List Int) (o a p d m : Int) (B : Nat) (w : World) (hA : Hid (A = none → c = 0)) (hnc : Hid (n ≤ c)) (hn : Hid (zs.length = n)) (hm : n ≤ 1073741824) (hs : Hid (Sees w B A (cellsU8 zs))) (hB : Hid (B ≤ w.heap.size)) (h0 : 0 ≤ o) (h1 : o ≤ 255) (ha : 0 ≤ a ∧ a ≤ 2147483647) (hp : 0 ≤ p ∧ p ≤ 2147483647) (hd : 0 ≤ d ∧ d ≤ 2147483647) (hi : 0 ≤ m ∧ m ≤ 18446744073709551615) :
    Calls Tryd.prog 41 #[.slice A n c, iv o a p d m, .bool false, .bool false, .bool false, .bool false] w fun e w' => ∃ r l, e = .returned r ∧ l = n + 1 + (opsY false false false false ⟨o, a, p, d, m⟩).length ∧ w'.ownsRow w.heap.size 5 1 r l (cellsU8 (zs ++ (o :: opsY false false false false ⟨o, a, p, d, m⟩))) ∧ Below w.heap.size w w' := by
  obtain ⟨i0, hi', hz0, hz1, hz2⟩ := info_parts Tryd.info5
  have hl0 := hn.out
  obtain ⟨W, hW⟩ : ∃ W, w.alloc (.cells #[.int .i64 o, .int .i64 a, .int .i64 p, .int .i64 d, .int .u64 m] 65) = W := ⟨_, rfl⟩
  have HW := hide hW
  have rx := hide (show Row W w.heap.size 65 [.int .i64 o, .int .i64 a, .int .i64 p, .int .i64 d, .int .u64 m] by rw [← hW]; exact Row.new w _ _)
  have hbW := hide (show Below w.heap.size w W by rw [← hW]; exact below1 w _)
  have hsW := hide (show Sees W W.heap.size A (cellsU8 zs) by rw [← hW]; exact (hs.out.alloc hB.out _).more (by have := hB.out; simp; omega))
  have hWs : w.heap.size + 1 = W.heap.size := by rw [← hW]; simp
  clear hW
  have HCL := hide (show (cellsU8 zs).length = n * 1 by have := hn.out; simp [cellsU8]; omega)
  have y0 := rx.out.cell (k := 0) rfl
  have y0' : ∀ ob : Obj, (W.alloc ob).cell? ⟨w.heap.size, 0, none⟩ = some (.int .i64 o) := fun ob => (rx.out.alloc ob).cell (k := 0) rfl
  have ho256 : IntKind.u8.wrap o = o := by rw [IntKind.wrap_u8']; omega
  have hwa : IntKind.u64.wrap a = a := wrap_u64_in _ (by omega) (by omega)
  have hwp : IntKind.u64.wrap p = p := wrap_u64_in _ (by omega) (by omega)
  have hwd : IntKind.u64.wrap d = d := wrap_u64_in _ (by omega) (by omega)
  have hwl : W.heap.size = W.heap.size := rfl
  go_enter Tryd.func41, Tryd.ntmps41
  go_upto_region 1 with (fail)
  rw [HW.out]
  clear HW
  go_region_law
    (first
      | (refine wp_append_seesN (.const (.slice none 0 0)) (.tmp 13) 22 rfl W.heap.size 5 i0 (.int .u8 0) 1 1 Tryd.underlying22 hi' hz0 hz1 hz2 rfl (by decide) (.slice none 0 0) 0 [] rfl (World.ownsRow_nil _ _ _ _) W.heap.size A n c (cellsU8 zs) rfl hA HCL (hide (hsW.out.draws 1)) hnc (one_u8 _) (by unfold maxLen; omega) (by omega) (Nat.le_refl _) ?_; intro v1 w5 ho1 hg1; have hG1 : W.grownBy w5 none := (grown_draws (World.grownBy.refl W none) 1).trans hg1; have s20 := (rx.out.grown hG1 (fun e => by cases e)).cell (k := 0) rfl)
      | (refine wp_append_seesN (.const (.slice none 0 0)) (.tmp 13) 22 rfl W.heap.size 5 i0 (.int .u8 0) 1 1 Tryd.underlying22 hi' hz0 hz1 hz2 rfl (by decide) (.slice none 0 0) 0 [] rfl (World.ownsRow_nil _ _ _ _) W.heap.size A n c (cellsU8 zs) rfl hA HCL (hide ((hsW.out.draws 1).alloc (Nat.le_refl _) _)) hnc (one_u8 _) (by unfold maxLen; omega) (by omega) (by simp) ?_; intro v1 w5 ho1 hg1; have hG1 : W.grownBy w5 none := ((grown_draws (World.grownBy.refl W none) 1).trans (World.grownBy_alloc _ _ _)).trans hg1; have hN1 := ((Row.new (W.drewN 1) 5 [.int .u8 o]).at_ (g' := W.heap.size) rfl).grown hg1 (fun e => by cases e))
      | (refine wp_append_own _ (.tmp 14) (.tmp 18) 22 rfl W.heap.size 5 i0 (.int .u8 0) 1 1 Tryd.underlying22 hi' hz0 hz1 hz2 rfl (by decide) v1 (0 + n) ([] ++ cellsU8 zs) rfl (ho1.alloc _) ⟨w5.heap.size, 0, none⟩ 1 1 [.int .u8 o] rfl rfl (one_new _ _ _) (one_byte _) (by unfold maxLen; omega) (by omega) (by have := hG1.size; simp; omega) ?_; intro v2 w6 ho2 hg2 _; have HG6 : Hid (W.grownBy w6 none) := hide ((hG1.trans (World.grownBy_alloc _ _ _)).andThen hg2 (fun k hk => .inl (ho1.lt k hk).1)); obtain ⟨A6, c6, rfl, hA6, hc6, hf6, hs6⟩ := own_seen ho2)
      | (refine wp_append_own _ (.tmp 14) (.tmp 18) 22 rfl W.heap.size 5 i0 (.int .u8 0) 1 1 Tryd.underlying22 hi' hz0 hz1 hz2 rfl (by decide) v1 (0 + n) ([] ++ cellsU8 zs) rfl ho1 ⟨W.heap.size, 0, none⟩ 1 1 [.int .u8 o] rfl rfl (fun j u hu => by rw [WideShapes.add_plain, Nat.zero_add]; exact hN1.cell hu) (one_byte _) (by unfold maxLen; omega) (by omega) hG1.size ?_; intro v2 w6 ho2 hg2 _; have HG6 : Hid (W.grownBy w6 none) := hide (hG1.andThen hg2 (fun k hk => .inl (ho1.lt k hk).1)); obtain ⟨A6, c6, rfl, hA6, hc6, hf6, hs6⟩ := own_seen ho2))
  all_goals
    simp only [Nat.zero_add] at ho2
    have hb6 := hide (show Below w.heap.size w w6 from hbW.out.grown HG6.out hbW.out.size (fun k hk => by cases hk))
    have rx0 := hide (rx.out.grown HG6.out (fun e => by cases e))
    have O0 := hide (show w6.ownsRow (w.heap.size + 1) 5 1 (.slice A6 (n + 1) c6) (n + 1) (cellsU8 (zs ++ [o])) by rw [cellsU8_app, hWs]; exact ho2)
    have hA0 := hide hA6
    clear ho2 hg2 ho1 hg1 hG1 hc6 hf6 hs6 hA6 y0 y0'
    have FIN := hide (show w6.ownsRow w.heap.size 5 1 (.slice A6 (n + 1) c6) (n + 1) (cellsU8 (zs ++ (o :: opsY false false false false ⟨o, a, p, d, m⟩))) by
      rw [show zs ++ (o :: opsY false false false false ⟨o, a, p, d, m⟩) = (zs ++ [o]) by simp [opsY, optY]]
      exact own_less O0.out (by omega))
    have HB := hide hb6.out
    have HLL := hide (show n + 1 = n + 1 + (opsY false false false false ⟨o, a, p, d, m⟩).length by simp [opsY, optY, digsI_length]; try omega)
    go_wp2
    go_ret
    first
      | exact ⟨_, _, rfl, HLL.out, FIN.out, HB.out⟩
      | exact ⟨_, rfl, by rw [← HLL.out]; exact FIN.out, HB.out⟩

theorem rputi_any (A : Option Addr) (n c : Nat) (zs : List Int) (x : Ins) (B : Nat) (w : World) (hA : Hid (A = none → c = 0)) (hnc : Hid (n ≤ c)) (hn : Hid (zs.length = n)) (hm : n ≤ 1073741824) (hs : Hid (Sees w B A (cellsU8 zs))) (hB : Hid (B ≤ w.heap.size)) (hx : Hid (InsW x)) :
    Calls Tryd.prog 41 #[.slice A n c, iv x.op x.a x.b x.c x.imm, .bool (useA x.op), .bool (useB x.op), .bool (useC x.op), .bool (useI x.op)] w fun e w' => ∃ r l, e = .returned r ∧ l = n + (insY x).length ∧ w'.ownsRow w.heap.size 5 1 r l (cellsU8 (zs ++ insY x)) ∧ Below w.heap.size w w' := by
  have h := hx.out
  obtain ⟨o, a, p, d, m⟩ := x
  have h1 := h.o
  have h2 := h.a
  have h3 := h.b
  have h4 := h.c
  have h5 := h.m
  simp only at h1 h2 h3 h4 h5
  have hl : ∀ ua ub uc ui : Bool, n + 1 + (opsY ua ub uc ui ⟨o, a, p, d, m⟩).length = n + (o :: opsY ua ub uc ui ⟨o, a, p, d, m⟩).length := fun _ _ _ _ => by simp; omega
  unfold insY
  simp only
  rcases shapes_of h1.1 h1.2 with ⟨a1, a2, a3, a4⟩ | ⟨a1, a2, a3, a4⟩ | ⟨a1, a2, a3, a4⟩ | ⟨a1, a2, a3, a4⟩ | ⟨a1, a2, a3, a4⟩ | ⟨a1, a2, a3, a4⟩
  · rw [a1, a2, a3, a4]
    exact (rputi_aaa A n c zs o a p d m B w hA hnc hn hm hs hB h1.1 (by omega) h2 h3 h4 h5).mono fun e w' ⟨r, l, e1, e2, e3, e4⟩ => ⟨r, l, e1, by rw [e2]; exact hl _ _ _ _, e3, e4⟩
  · rw [a1, a2, a3, a4]
    exact (rputi_aa A n c zs o a p d m B w hA hnc hn hm hs hB h1.1 (by omega) h2 h3 h4 h5).mono fun e w' ⟨r, l, e1, e2, e3, e4⟩ => ⟨r, l, e1, by rw [e2]; exact hl _ _ _ _, e3, e4⟩
  · rw [a1, a2, a3, a4]
    exact (rputi_a A n c zs o a p d m B w hA hnc hn hm hs hB h1.1 (by omega) h2 h3 h4 h5).mono fun e w' ⟨r, l, e1, e2, e3, e4⟩ => ⟨r, l, e1, by rw [e2]; exact hl _ _ _ _, e3, e4⟩
  · rw [a1, a2, a3, a4]
    exact (rputi_ai A n c zs o a p d m B w hA hnc hn hm hs hB h1.1 (by omega) h2 h3 h4 h5).mono fun e w' ⟨r, l, e1, e2, e3, e4⟩ => ⟨r, l, e1, by rw [e2]; exact hl _ _ _ _, e3, e4⟩
  · rw [a1, a2, a3, a4]
    exact (rputi_i A n c zs o a p d m B w hA hnc hn hm hs hB h1.1 (by omega) h2 h3 h4 h5).mono fun e w' ⟨r, l, e1, e2, e3, e4⟩ => ⟨r, l, e1, by rw [e2]; exact hl _ _ _ _, e3, e4⟩
  · rw [a1, a2, a3, a4]
    exact (rputi_o A n c zs o a p d m B w hA hnc hn hm hs hB h1.1 (by omega) h2 h3 h4 h5).mono fun e w' ⟨r, l, e1, e2, e3, e4⟩ => ⟨r, l, e1, by rw [e2]; exact hl _ _ _ _, e3, e4⟩
end Go.Proofs.YtlkcjjalkdlicaaDoor
end

section
/-
  The reference's PutInstr, for the instructions of a target. Conditions: those of the types; the instruction can be written.
-/
namespace Go.Proofs.YtlkcjjalkdlicaaDoor
open Go.RowKit

theorem mshapes_of {z : Int} (h0 : 0 ≤ z) (h1 : z < 25) : (mA z = true ∧ mB z = true ∧ mC z = true ∧ mI z = false) ∨ (mA z = true ∧ mB z = true ∧ mC z = false ∧ mI z = false) ∨ (mA z = true ∧ mB z = false ∧ mC z = false ∧ mI z = false) ∨ (mA z = true ∧ mB z = false ∧ mC z = false ∧ mI z = true) ∨ (mA z = false ∧ mB z = false ∧ mC z = false ∧ mI z = true) ∨ (mA z = false ∧ mB z = false ∧ mC z = false ∧ mI z = false) := by
  rcases m25 h0 h1 with rfl | rfl | rfl | rfl | rfl | rfl | rfl | rfl | rfl | rfl | rfl | rfl | rfl | rfl | rfl | rfl | rfl | rfl | rfl | rfl | rfl | rfl | rfl | rfl | rfl <;> decide
theorem rputm_any (A : Option Addr) (n c : Nat) (zs : List Int) (x : Ins) (B : Nat) (w : World) (hA : Hid (A = none → c = 0)) (hnc : Hid (n ≤ c)) (hn : Hid (zs.length = n)) (hm : n ≤ 1073741824) (hs : Hid (Sees w B A (cellsU8 zs))) (hB : Hid (B ≤ w.heap.size)) (hx : Hid (MInsW x)) :
    Calls Tryd.prog 41 #[.slice A n c, iv x.op x.a x.b x.c x.imm, .bool (mA x.op), .bool (mB x.op), .bool (mC x.op), .bool (mI x.op)] w fun e w' => ∃ r l, e = .returned r ∧ l = n + (minsY x).length ∧ w'.ownsRow w.heap.size 5 1 r l (cellsU8 (zs ++ minsY x)) ∧ Below w.heap.size w w' := by
  have h := hx.out
  obtain ⟨o, a, p, d, m⟩ := x
  have h1 := h.o
  have h2 := h.a
  have h3 := h.b
  have h4 := h.c
  have h5 := h.m
  simp only at h1 h2 h3 h4 h5
  have hl : ∀ ua ub uc ui : Bool, n + 1 + (opsY ua ub uc ui ⟨o, a, p, d, m⟩).length = n + (o :: opsY ua ub uc ui ⟨o, a, p, d, m⟩).length := fun _ _ _ _ => by simp; omega
  unfold minsY
  simp only
  rcases mshapes_of h1.1 h1.2 with ⟨a1, a2, a3, a4⟩ | ⟨a1, a2, a3, a4⟩ | ⟨a1, a2, a3, a4⟩ | ⟨a1, a2, a3, a4⟩ | ⟨a1, a2, a3, a4⟩ | ⟨a1, a2, a3, a4⟩
  · rw [a1, a2, a3, a4]
    exact (rputi_aaa A n c zs o a p d m B w hA hnc hn hm hs hB h1.1 (by omega) h2 h3 h4 h5).mono fun e w' ⟨r, l, e1, e2, e3, e4⟩ => ⟨r, l, e1, by rw [e2]; exact hl _ _ _ _, e3, e4⟩
  · rw [a1, a2, a3, a4]
    exact (rputi_aa A n c zs o a p d m B w hA hnc hn hm hs hB h1.1 (by omega) h2 h3 h4 h5).mono fun e w' ⟨r, l, e1, e2, e3, e4⟩ => ⟨r, l, e1, by rw [e2]; exact hl _ _ _ _, e3, e4⟩
  · rw [a1, a2, a3, a4]
    exact (rputi_a A n c zs o a p d m B w hA hnc hn hm hs hB h1.1 (by omega) h2 h3 h4 h5).mono fun e w' ⟨r, l, e1, e2, e3, e4⟩ => ⟨r, l, e1, by rw [e2]; exact hl _ _ _ _, e3, e4⟩
  · rw [a1, a2, a3, a4]
    exact (rputi_ai A n c zs o a p d m B w hA hnc hn hm hs hB h1.1 (by omega) h2 h3 h4 h5).mono fun e w' ⟨r, l, e1, e2, e3, e4⟩ => ⟨r, l, e1, by rw [e2]; exact hl _ _ _ _, e3, e4⟩
  · rw [a1, a2, a3, a4]
    exact (rputi_i A n c zs o a p d m B w hA hnc hn hm hs hB h1.1 (by omega) h2 h3 h4 h5).mono fun e w' ⟨r, l, e1, e2, e3, e4⟩ => ⟨r, l, e1, by rw [e2]; exact hl _ _ _ _, e3, e4⟩
  · rw [a1, a2, a3, a4]
    exact (rputi_o A n c zs o a p d m B w hA hnc hn hm hs hB h1.1 (by omega) h2 h3 h4 h5).mono fun e w' ⟨r, l, e1, e2, e3, e4⟩ => ⟨r, l, e1, by rw [e2]; exact hl _ _ _ _, e3, e4⟩
end Go.Proofs.YtlkcjjalkdlicaaDoor
end

section
/-
  A target instruction's error in the order in which the reference looks for it. No function of the program is named here.
-/
namespace Go.Proofs.YtlkcjjalkdlicaaDoor
open Go.RowKit

/-- Which operands an operation of the target uses. -/
def muA (o : Int) : Bool := !decide ((mshpOf o).1 = 0)
def muB (o : Int) : Bool := !decide ((mshpOf o).2.1 = 0)
def muC (o : Int) : Bool := !decide ((mshpOf o).2.2.1 = 0)
def muI (o : Int) : Bool := (mshpOf o).2.2.2
def memB (o : Int) : Bool := decide (o = 15) || decide (o = 16) || decide (o = 17)
/-- A register or a function that there is. -/
def okM (N k n : Int) : Bool := if k = 1 then withB n 8 else if k = 4 then withB n N else true
def namB (N : Int) (x : Ins) : Bool := okM N (mshpOf x.op).1 x.a && (okM N (mshpOf x.op).2.1 x.b && okM N (mshpOf x.op).2.2.1 x.c)
/-- An operand that is not used is not 0. -/
def fmtB (x : Ins) : Bool := (!muA x.op && x.a != 0) || ((!muB x.op && x.b != 0) || ((!muC x.op && x.c != 0) || (!muI x.op && x.imm != 0)))
def tarB (C : Int) (x : Ins) : Bool := (decide (x.op = 20) && !withB x.a C) || (decide (x.op = 21) && !withB x.b C)

theorem mop_two {N C k n : Int} : mopE N C k n = 2 ↔ k = 0 ∧ n ≠ 0 := by
  unfold mopE; (repeat' split) <;> simp_all
theorem mop_four {N C k n : Int} (hk : 0 ≤ k ∧ k ≤ 5) : mopE N C k n = 4 ↔ okM N k n = false := by
  unfold mopE okM; (repeat' split) <;> simp_all
theorem mop_five {N C k n : Int} : mopE N C k n = 5 ↔ k = 3 ∧ szB n = false := by
  unfold mopE; (repeat' split) <;> simp_all
theorem mop_six {N C k n : Int} : mopE N C k n = 6 ↔ k = 5 ∧ withB n C = false := by
  unfold mopE; (repeat' split) <;> simp_all
theorem mkinds (o : Int) (h0 : 0 ≤ o) (h1 : o < 25) : (0 ≤ (mshpOf o).1 ∧ (mshpOf o).1 ≤ 5) ∧ (0 ≤ (mshpOf o).2.1 ∧ (mshpOf o).2.1 ≤ 5) ∧ (0 ≤ (mshpOf o).2.2.1 ∧ (mshpOf o).2.2.1 ≤ 5) ∧ ((mshpOf o).1 = 5 ↔ o = 20) ∧ ((mshpOf o).2.1 = 5 ↔ o = 21) ∧ (mshpOf o).2.2.1 ≠ 5 ∧ (mshpOf o).1 ≠ 3 ∧ (mshpOf o).2.1 ≠ 3 ∧ ((mshpOf o).2.2.1 = 3 ↔ memB o = true) := by
  have e : ∀ k : Fin 25, (0 ≤ (mshpOf (k.val : Int)).1 ∧ (mshpOf (k.val : Int)).1 ≤ 5) ∧ (0 ≤ (mshpOf (k.val : Int)).2.1 ∧ (mshpOf (k.val : Int)).2.1 ≤ 5) ∧ (0 ≤ (mshpOf (k.val : Int)).2.2.1 ∧ (mshpOf (k.val : Int)).2.2.1 ≤ 5) ∧ ((mshpOf (k.val : Int)).1 = 5 ↔ (k.val : Int) = 20) ∧ ((mshpOf (k.val : Int)).2.1 = 5 ↔ (k.val : Int) = 21) ∧ (mshpOf (k.val : Int)).2.2.1 ≠ 5 ∧ (mshpOf (k.val : Int)).1 ≠ 3 ∧ (mshpOf (k.val : Int)).2.1 ≠ 3 ∧ ((mshpOf (k.val : Int)).2.2.1 = 3 ↔ memB (k.val : Int) = true) := by decide
  have := e ⟨o.toNat, by omega⟩
  simp only at this
  rwa [Int.toNat_of_nonneg h0] at this
theorem insB_zero {n : Int} (h : 0 ≤ n) : insB 0 0 n = true := by
  have hr : rightB 0 0 = true := by decide
  unfold insB; rw [hr]; simpa using h
theorem cov_no {P S : Int} {x : Ins} (hP : 0 ≤ P) (hS : 0 ≤ S) : covB P S x = false ↔ (rdB x.op && !insB (rdI x).1 (rdI x).2 (S + 16 * P)) = true ∨ (wrB x.op && !insB (wrI x).1 (wrI x).2 S) = true := by
  unfold covB
  have h1 : rdB x.op = false → insB (rdI x).1 (rdI x).2 (S + 16 * P) = true := fun h => by
    rw [show rdI x = (0, 0) by unfold rdI; simp [h]]; exact insB_zero (by omega)
  have h2 : wrB x.op = false → insB (wrI x).1 (wrI x).2 S = true := fun h => by
    rw [show wrI x = (0, 0) by unfold wrI; simp [h]]; exact insB_zero hS
  cases hr : rdB x.op <;> cases hw : wrB x.op <;> cases hi : insB (rdI x).1 (rdI x).2 (S + 16 * P) <;> cases hj : insB (wrI x).1 (wrI x).2 S <;> simp_all
/-- The reference's order. -/
theorem mins_order {N : Nat} {f : Fm} {x : Ins} (he : exB x.op = true) (hP : 0 ≤ f.params) (hS : 0 ≤ f.size) :
    minsE N f x = if fmtB x = true then 2 else if namB N x = false then 4 else if (memB x.op && !szB x.c) = true then 5 else if (rdB x.op && !insB (rdI x).1 (rdI x).2 (f.size + 16 * f.params)) = true then 4 else if (wrB x.op && !insB (wrI x).1 (wrI x).2 f.size) = true then 4 else if tarB f.code.length x = true then 6 else 0 := by
  have ho : 0 ≤ x.op ∧ x.op < 25 := by
    unfold exB at he
    simp only [Bool.and_eq_true] at he
    exact withB_true.1 he.1
  obtain ⟨k1, k2, k3, t1, t2, t3, s1, s2, s3⟩ := mkinds x.op ho.1 ho.2
  unfold minsE
  rw [if_neg (by simp [he])]
  unfold mfound
  rw [mrank_order (mopE_cases _ _ _ _) (mopE_cases _ _ _ _) (mopE_cases _ _ _ _)]
  have c2 : (mopE N f.code.length (mshpOf x.op).1 x.a = 2 ∨ mopE N f.code.length (mshpOf x.op).2.1 x.b = 2 ∨ mopE N f.code.length (mshpOf x.op).2.2.1 x.c = 2 ∨ ((mshpOf x.op).2.2.2 = false ∧ x.imm ≠ 0)) ↔ fmtB x = true := by
    rw [mop_two, mop_two, mop_two]; unfold fmtB muA muB muC muI; simp
  have c4 : (mopE N f.code.length (mshpOf x.op).1 x.a = 4 ∨ mopE N f.code.length (mshpOf x.op).2.1 x.b = 4 ∨ mopE N f.code.length (mshpOf x.op).2.2.1 x.c = 4) ↔ namB N x = false := by
    rw [mop_four k1, mop_four k2, mop_four k3]; unfold namB
    cases okM N (mshpOf x.op).1 x.a <;> cases okM N (mshpOf x.op).2.1 x.b <;> cases okM N (mshpOf x.op).2.2.1 x.c <;> simp
  have c5 : (mopE N f.code.length (mshpOf x.op).1 x.a = 5 ∨ mopE N f.code.length (mshpOf x.op).2.1 x.b = 5 ∨ mopE N f.code.length (mshpOf x.op).2.2.1 x.c = 5) ↔ (memB x.op && !szB x.c) = true := by
    rw [mop_five, mop_five, mop_five, s3]
    constructor
    · rintro (h | h | h)
      · exact absurd h.1 s1
      · exact absurd h.1 s2
      · simp [h.1, h.2]
    · intro h
      simp only [Bool.and_eq_true, Bool.not_eq_true'] at h
      exact .inr (.inr h)
  have c6 : (mopE N f.code.length (mshpOf x.op).1 x.a = 6 ∨ mopE N f.code.length (mshpOf x.op).2.1 x.b = 6 ∨ mopE N f.code.length (mshpOf x.op).2.2.1 x.c = 6) ↔ tarB f.code.length x = true := by
    rw [mop_six, mop_six, mop_six, t1, t2]
    unfold tarB
    constructor
    · rintro (h | h | h)
      · simp [h.1, h.2]
      · simp [h.1, h.2]
      · exact absurd h.1 t3
    · intro h
      simp only [Bool.or_eq_true, Bool.and_eq_true, decide_eq_true_eq, Bool.not_eq_true'] at h
      rcases h with h | h
      · exact .inl h
      · exact .inr (.inl h)
  have cv := cov_no (x := x) hP hS
  by_cases h2 : fmtB x = true
  · rw [if_pos (c2.2 h2), if_pos h2]
  · rw [if_neg (fun h => h2 (c2.1 h)), if_neg h2]
    by_cases h4 : namB N x = false
    · rw [if_pos (c4.2 h4), if_pos h4]
    · rw [if_neg (fun h => h4 (c4.1 h)), if_neg h4]
      by_cases h5 : (memB x.op && !szB x.c) = true
      · rw [if_pos (c5.2 h5), if_pos h5]
      · rw [if_neg (fun h => h5 (c5.1 h)), if_neg h5]
        by_cases hr : (rdB x.op && !insB (rdI x).1 (rdI x).2 (f.size + 16 * f.params)) = true
        · rw [if_pos (cv.2 (.inl hr)), if_pos hr]
        · rw [if_neg hr]
          by_cases hw : (wrB x.op && !insB (wrI x).1 (wrI x).2 f.size) = true
          · rw [if_pos (cv.2 (.inr hw)), if_pos hw]
          · rw [if_neg (fun h => (cv.1 h).elim hr hw), if_neg hw]
            by_cases h6 : tarB f.code.length x = true
            · rw [if_pos (c6.2 h6), if_pos h6]
            · rw [if_neg (fun h => h6 (c6.1 h)), if_neg h6]
end Go.Proofs.YtlkcjjalkdlicaaDoor
end

section
/-
  The contract of the reference's Operands (chapter 5): which operands an operation uses. Condition: the operation is one of the 25.
-/
namespace Go.Proofs.YtlkcjjalkdlicaaDoor
open Go.RowKit

set_option maxHeartbeats 4000000 in
theorem ropd_any (op : Int) (w : World) (h0 : 0 ≤ op) (h1 : op < 25) :
    Calls Tryd.prog 71 #[.int .i64 op] w fun e w' => e = .returned (.tuple #[.bool (useA op), .bool (useB op), .bool (useC op), .bool (useI op)]) ∧ w = w' := by
  have hc : op = 0 ∨ op = 1 ∨ op = 2 ∨ op = 3 ∨ op = 4 ∨ op = 5 ∨ op = 6 ∨ op = 7 ∨ op = 8 ∨ op = 9 ∨ op = 10 ∨ op = 11 ∨ op = 12 ∨ op = 13 ∨ op = 14 ∨ op = 15 ∨ op = 16 ∨ op = 17 ∨ op = 18 ∨ op = 19 ∨ op = 20 ∨ op = 21 ∨ op = 22 ∨ op = 23 ∨ op = 24 := by omega
  clear h0 h1
  rcases hc with rfl | rfl | rfl | rfl | rfl | rfl | rfl | rfl | rfl | rfl | rfl | rfl | rfl | rfl | rfl | rfl | rfl | rfl | rfl | rfl | rfl | rfl | rfl | rfl | rfl
  all_goals
    go_enter Tryd.func71, Tryd.ntmps71
    go_wp2
    refine bodyPost_ret (by simp [results, Tryd.results71, go_sem]; decide) rfl ⟨rfl, rfl⟩
end Go.Proofs.YtlkcjjalkdlicaaDoor
end

section
/-
  The contracts of the reference's within, memory, Operands, named, shape (chapter 10). Conditions: those of the types.
-/
namespace Go.Proofs.YtlkcjjalkdlicaaDoor
open Go.RowKit

theorem rwith10_any (n m : Int) (w : World) : Calls Tryd.prog 97 #[.int .i64 n, .int .i64 m] w fun e w' => e = .returned (.bool (withB n m)) ∧ w = w' := by
  by_cases h : 0 ≤ n
  · go_enter Tryd.func97, Tryd.ntmps97
    go_wp2_with fail
    go_ret
    exact ⟨ret_bool (by simp [withB, h]), rfl⟩
  · have hd : decide (0 ≤ n) = false := by simpa using h
    go_enter Tryd.func97, Tryd.ntmps97
    go_wp2_with fail
    go_ret
    exact ⟨ret_bool (by simp [withB, hd]), rfl⟩
theorem rmem10_any (o : Int) (w : World) : Calls Tryd.prog 70 #[.int .i64 o] w fun e w' => e = .returned (.bool (memB o)) ∧ w = w' := by
  by_cases h1 : o = 15
  · subst h1
    go_enter Tryd.func70, Tryd.ntmps70
    go_wp2_with fail
    go_ret
    exact ⟨rfl, rfl⟩
  · by_cases h2 : o = 16
    · subst h2
      go_enter Tryd.func70, Tryd.ntmps70
      go_wp2_with fail
      go_ret
      exact ⟨rfl, rfl⟩
    · have b1 : (o == 15) = false := by simpa using h1
      have b2 : (o == 16) = false := by simpa using h2
      have HE := hide (show memB o = (o == 17) by unfold memB; rw [decide_eq_false h1, decide_eq_false h2]; by_cases h : o = 17 <;> simp [h])
      clear h1 h2
      go_enter Tryd.func70, Tryd.ntmps70
      go_wp2_with fail
      go_ret
      exact ⟨ret_bool HE.out.symm, rfl⟩
theorem mu_use (o : Int) (h0 : 0 ≤ o) (h1 : o < 25) (hm : memB o = false) (hx : exB o = true) : muA o = useA o ∧ muB o = useB o ∧ muC o = useC o ∧ muI o = useI o := by
  have e : ∀ k : Fin 25, memB (k.val : Int) = false → exB (k.val : Int) = true → muA (k.val : Int) = useA (k.val : Int) ∧ muB (k.val : Int) = useB (k.val : Int) ∧ muC (k.val : Int) = useC (k.val : Int) ∧ muI (k.val : Int) = useI (k.val : Int) := by decide
  have := e ⟨o.toNat, by omega⟩
  simp only at this
  rw [Int.toNat_of_nonneg h0] at this
  exact this hm hx
theorem mu_mem (o : Int) (h0 : 0 ≤ o) (h1 : o < 25) (hm : memB o = true) : muA o = true ∧ muB o = true ∧ muC o = true ∧ muI o = false := by
  have e : ∀ k : Fin 25, memB (k.val : Int) = true → muA (k.val : Int) = true ∧ muB (k.val : Int) = true ∧ muC (k.val : Int) = true ∧ muI (k.val : Int) = false := by decide
  have := e ⟨o.toNat, by omega⟩
  simp only at this
  rw [Int.toNat_of_nonneg h0] at this
  exact this hm
set_option maxHeartbeats 400000 in
theorem rop10_any (o : Int) (w : World) (h0 : 0 ≤ o) (h1 : o < 25) (hx : exB o = true) : Calls Tryd.prog 40 #[.int .i64 o] w fun e w' => e = .returned (.tuple #[.bool (muA o), .bool (muB o), .bool (muC o), .bool (muI o)]) ∧ w = w' := by
  have cm := rmem10_any o
  have cu := ropd_any o
  cases hm : memB o with
  | true =>
    obtain ⟨e1, e2, e3, e4⟩ := mu_mem o h0 h1 hm
    rw [hm] at cm
    rw [e1, e2, e3, e4]
    clear e1 e2 e3 e4 hm
    go_enter Tryd.func40, Tryd.ntmps40
    go_wp2_with fail
    refine (cm _).mono ?_
    rintro e w' ⟨rfl, rfl⟩
    go_wp2_with fail
    refine bodyPost_ret (v := .tuple #[.bool true, .bool true, .bool true, .bool false]) (by simp [results, Tryd.results40, go_sem]; first | done | decide) rfl ⟨rfl, rfl⟩
  | false =>
    obtain ⟨e1, e2, e3, e4⟩ := mu_use o h0 h1 hm hx
    rw [hm] at cm
    rw [e1, e2, e3, e4]
    have CU := hide (fun w => cu w h0 h1)
    generalize useA o = ua at CU ⊢
    generalize useB o = ub at CU ⊢
    generalize useC o = uc at CU ⊢
    generalize useI o = ui at CU ⊢
    clear e1 e2 e3 e4 hm cu
    go_enter Tryd.func40, Tryd.ntmps40
    go_wp2_with fail
    refine (cm _).mono ?_
    rintro e w' ⟨rfl, rfl⟩
    go_wp2_with fail
    refine (CU.out _).mono ?_
    rintro e w' ⟨rfl, rfl⟩
    go_wp2_with fail
    refine bodyPost_ret (v := .tuple #[.bool ua, .bool ub, .bool uc, .bool ui]) (by simp [results, Tryd.results40, go_sem]; first | done | decide) rfl ⟨rfl, rfl⟩
set_option maxHeartbeats 1000000 in
theorem rshape10_any (Al : Int) (A : Option Addr) (n c : Nat) (P S : Int) (A1 : Option Addr) (n1 c1 : Nat) (f : Fm) (w : World) (hf : Hid (f.params = P ∧ f.size = S)) :
    Calls Tryd.prog 98 #[tv Al A n c, mv P S A1 n1 c1] w fun e w' => e = .returned (.bool (shB Al f)) ∧ Below w.heap.size w w' := by
  have HE := hide (show shB Al f = (powB Al && (withB P 9 && (withB S 2147483520 && decide (S % Al = 0)))) by unfold shB; rw [hf.out.1, hf.out.2])
  have cp := rpower_any Al
  cases h1 : powB Al with
  | false =>
    rw [h1] at cp HE
    clear h1
    go_enter Tryd.func98, Tryd.ntmps98
    go_wp2_with fail
    refine (cp _).mono ?_
    rintro e w' ⟨rfl, rfl⟩
    go_wp2_with fail
    go_ret
    exact ⟨ret_bool (by rw [HE.out]; rfl), below2 _ _ _⟩
  | true =>
    rw [h1] at cp HE
    obtain ⟨a0, a1⟩ := powB_b h1
    have hane : (Al == 0) = false := by simp; omega
    clear h1
    by_cases g4 : 0 ≤ P
    rotate_left
    · have hd : decide (0 ≤ P) = false := decide_eq_false g4
      have HR := hide (show shB Al f = false by rw [HE.out, withB_false.2 (by omega : ¬ (0 ≤ P ∧ P < 9))]; rfl)
      clear HE
      go_enter Tryd.func98, Tryd.ntmps98
      go_wp2_with fail
      refine (cp _).mono ?_
      rintro e w' ⟨rfl, rfl⟩
      go_wp2_with fail
      go_ret
      exact ⟨ret_bool HR.out.symm, below2 _ _ _⟩
    by_cases g5 : P ≤ 8
    rotate_left
    · have hd : decide (P ≤ 8) = false := decide_eq_false g5
      have HR := hide (show shB Al f = false by rw [HE.out, withB_false.2 (by omega : ¬ (0 ≤ P ∧ P < 9))]; rfl)
      clear HE
      go_enter Tryd.func98, Tryd.ntmps98
      go_wp2_with fail
      refine (cp _).mono ?_
      rintro e w' ⟨rfl, rfl⟩
      go_wp2_with fail
      go_ret
      exact ⟨ret_bool HR.out.symm, below2 _ _ _⟩
    by_cases g6 : 0 ≤ S
    rotate_left
    · have hd : decide (0 ≤ S) = false := decide_eq_false g6
      have HR := hide (show shB Al f = false by rw [HE.out, withB_false.2 (by omega : ¬ (0 ≤ S ∧ S < 2147483520))]; simp)
      clear HE
      go_enter Tryd.func98, Tryd.ntmps98
      go_wp2_with fail
      refine (cp _).mono ?_
      rintro e w' ⟨rfl, rfl⟩
      go_wp2_with fail
      go_ret
      exact ⟨ret_bool HR.out.symm, below2 _ _ _⟩
    by_cases g7 : S ≤ 2147483519
    rotate_left
    · have hd : decide (S ≤ 2147483519) = false := decide_eq_false g7
      have HR := hide (show shB Al f = false by rw [HE.out, withB_false.2 (by omega : ¬ (0 ≤ S ∧ S < 2147483520))]; simp)
      clear HE
      go_enter Tryd.func98, Tryd.ntmps98
      go_wp2_with fail
      refine (cp _).mono ?_
      rintro e w' ⟨rfl, rfl⟩
      go_wp2_with fail
      go_ret
      exact ⟨ret_bool HR.out.symm, below2 _ _ _⟩
    have HR := hide (show shB Al f = decide (S % Al = 0) by rw [HE.out, withB_true.2 (by omega : 0 ≤ P ∧ P < 9), withB_true.2 (by omega : 0 ≤ S ∧ S < 2147483520)]; rfl)
    have m0 := Int.emod_nonneg S (show Al ≠ 0 by omega)
    have m1 := Int.emod_lt_of_pos S (show 0 < Al by omega)
    go_enter Tryd.func98, Tryd.ntmps98
    go_wp2_with fail
    refine (cp _).mono ?_
    rintro e w' ⟨rfl, rfl⟩
    go_wp2_with fail
    go_ret
    exact ⟨ret_bool (by rw [HR.out]; by_cases h : S % Al = 0 <;> simp [h]), below2 _ _ _⟩
theorem okM0 (N n : Int) : okM N 0 n = true := rfl
theorem okM1 (N n : Int) : okM N 1 n = withB n 8 := rfl
theorem okM2 (N n : Int) : okM N 2 n = true := rfl
theorem okM3 (N n : Int) : okM N 3 n = true := rfl
theorem okM4 (N n : Int) : okM N 4 n = withB n N := rfl
theorem okM5 (N n : Int) : okM N 5 n = true := rfl
theorem namB_at {N o a b d m k1 k2 k3 : Int} {im : Bool} (h : mshpOf o = (k1, k2, k3, im)) : namB N ⟨o, a, b, d, m⟩ = (okM N k1 a && (okM N k2 b && okM N k3 d)) := by unfold namB; rw [h]
set_option maxHeartbeats 2000000 in
theorem rnam_a (Al : Int) (A : Option Addr) (n c : Nat) (o a b d m : Int) (w : World) (ho : o = 0 ∨ o = 13 ∨ o = 14) :
    Calls Tryd.prog 128 #[tv Al A n c, iv o a b d m] w fun e w' => e = .returned (.bool (namB n ⟨o, a, b, d, m⟩)) ∧ Below w.heap.size w w' := by
  have c0 := fun W => rwith10_any a 8 W
  obtain ⟨q0, hq0⟩ : ∃ q, withB a 8 = q := ⟨_, rfl⟩
  rw [hq0] at c0
  have HN : Hid (namB n ⟨o, a, b, d, m⟩ = (q0)) := by
    show namB n ⟨o, a, b, d, m⟩ = _
    have hs : mshpOf o = (1, 0, 0, (mshpOf o).2.2.2) := by rcases ho with rfl | rfl | rfl <;> rfl
    rw [namB_at hs]
    simp only [okM0, okM1, hq0, Bool.true_and, Bool.and_true]
  rw [HN.out]
  clear HN hq0
  rcases ho with rfl | rfl | rfl
  all_goals
    go_enter Tryd.func128, Tryd.ntmps128
    go_wp2_with fail
    refine (c0 _).mono ?_
    rintro e w' ⟨rfl, rfl⟩
    go_wp2_with fail
    go_ret
    exact ⟨rfl, below2 _ _ _⟩
set_option maxHeartbeats 2000000 in
theorem rnam_ld (Al : Int) (A : Option Addr) (n c : Nat) (o a b d m : Int) (w : World) (ho : o = 15) :
    Calls Tryd.prog 128 #[tv Al A n c, iv o a b d m] w fun e w' => e = .returned (.bool (namB n ⟨o, a, b, d, m⟩)) ∧ Below w.heap.size w w' := by
  have c0 := fun W => rwith10_any a 8 W
  obtain ⟨q0, hq0⟩ : ∃ q, withB a 8 = q := ⟨_, rfl⟩
  rw [hq0] at c0
  have HN : Hid (namB n ⟨o, a, b, d, m⟩ = (q0)) := by
    show namB n ⟨o, a, b, d, m⟩ = _
    have hs : mshpOf o = (1, 2, 3, (mshpOf o).2.2.2) := by rcases ho with rfl <;> rfl
    rw [namB_at hs]
    simp only [okM1, okM2, okM3, hq0, Bool.true_and, Bool.and_true]
  rw [HN.out]
  clear HN hq0
  rcases ho with rfl
  all_goals
    go_enter Tryd.func128, Tryd.ntmps128
    go_wp2_with fail
    refine (c0 _).mono ?_
    rintro e w' ⟨rfl, rfl⟩
    go_wp2_with fail
    go_ret
    exact ⟨rfl, below2 _ _ _⟩
set_option maxHeartbeats 2000000 in
theorem rnam_br (Al : Int) (A : Option Addr) (n c : Nat) (o a b d m : Int) (w : World) (ho : o = 21) :
    Calls Tryd.prog 128 #[tv Al A n c, iv o a b d m] w fun e w' => e = .returned (.bool (namB n ⟨o, a, b, d, m⟩)) ∧ Below w.heap.size w w' := by
  have c0 := fun W => rwith10_any a 8 W
  obtain ⟨q0, hq0⟩ : ∃ q, withB a 8 = q := ⟨_, rfl⟩
  rw [hq0] at c0
  have HN : Hid (namB n ⟨o, a, b, d, m⟩ = (q0)) := by
    show namB n ⟨o, a, b, d, m⟩ = _
    have hs : mshpOf o = (1, 5, 0, (mshpOf o).2.2.2) := by rcases ho with rfl <;> rfl
    rw [namB_at hs]
    simp only [okM0, okM1, okM5, hq0, Bool.true_and, Bool.and_true]
  rw [HN.out]
  clear HN hq0
  rcases ho with rfl
  all_goals
    go_enter Tryd.func128, Tryd.ntmps128
    go_wp2_with fail
    refine (c0 _).mono ?_
    rintro e w' ⟨rfl, rfl⟩
    go_wp2_with fail
    go_ret
    exact ⟨rfl, below2 _ _ _⟩
set_option maxHeartbeats 2000000 in
theorem rnam_ab (Al : Int) (A : Option Addr) (n c : Nat) (o a b d m : Int) (w : World) (ho : o = 1 ∨ o = 12) :
    Calls Tryd.prog 128 #[tv Al A n c, iv o a b d m] w fun e w' => e = .returned (.bool (namB n ⟨o, a, b, d, m⟩)) ∧ Below w.heap.size w w' := by
  have c0 := fun W => rwith10_any a 8 W
  obtain ⟨q0, hq0⟩ : ∃ q, withB a 8 = q := ⟨_, rfl⟩
  rw [hq0] at c0
  have c1 := fun W => rwith10_any b 8 W
  obtain ⟨q1, hq1⟩ : ∃ q, withB b 8 = q := ⟨_, rfl⟩
  rw [hq1] at c1
  have HN : Hid (namB n ⟨o, a, b, d, m⟩ = (q0 && q1)) := by
    show namB n ⟨o, a, b, d, m⟩ = _
    have hs : mshpOf o = (1, 1, 0, (mshpOf o).2.2.2) := by rcases ho with rfl | rfl <;> rfl
    rw [namB_at hs]
    simp only [okM0, okM1, hq0, hq1, Bool.true_and, Bool.and_true]
  rw [HN.out]
  clear HN hq0 hq1
  rcases ho with rfl | rfl
  all_goals
    go_enter Tryd.func128, Tryd.ntmps128
    go_wp2_with fail
    refine (c0 _).mono ?_
    rintro e w' ⟨rfl, rfl⟩
    cases q0
    · go_wp2_with fail
      go_ret
      exact ⟨rfl, below2 _ _ _⟩
    · go_wp2_with fail
      refine (c1 _).mono ?_
      rintro e w' ⟨rfl, rfl⟩
      go_wp2_with fail
      go_ret
      exact ⟨rfl, below2 _ _ _⟩
set_option maxHeartbeats 2000000 in
theorem rnam_abc (Al : Int) (A : Option Addr) (n c : Nat) (o a b d m : Int) (w : World) (ho : o = 2 ∨ o = 3 ∨ o = 4 ∨ o = 5 ∨ o = 6 ∨ o = 7 ∨ o = 8 ∨ o = 9 ∨ o = 10 ∨ o = 11) :
    Calls Tryd.prog 128 #[tv Al A n c, iv o a b d m] w fun e w' => e = .returned (.bool (namB n ⟨o, a, b, d, m⟩)) ∧ Below w.heap.size w w' := by
  have c0 := fun W => rwith10_any a 8 W
  obtain ⟨q0, hq0⟩ : ∃ q, withB a 8 = q := ⟨_, rfl⟩
  rw [hq0] at c0
  have c1 := fun W => rwith10_any b 8 W
  obtain ⟨q1, hq1⟩ : ∃ q, withB b 8 = q := ⟨_, rfl⟩
  rw [hq1] at c1
  have c2 := fun W => rwith10_any d 8 W
  obtain ⟨q2, hq2⟩ : ∃ q, withB d 8 = q := ⟨_, rfl⟩
  rw [hq2] at c2
  have HN : Hid (namB n ⟨o, a, b, d, m⟩ = (q0 && (q1 && q2))) := by
    show namB n ⟨o, a, b, d, m⟩ = _
    have hs : mshpOf o = (1, 1, 1, (mshpOf o).2.2.2) := by rcases ho with rfl | rfl | rfl | rfl | rfl | rfl | rfl | rfl | rfl | rfl <;> rfl
    rw [namB_at hs]
    simp only [okM1, hq0, hq1, hq2, Bool.true_and, Bool.and_true]
  rw [HN.out]
  clear HN hq0 hq1 hq2
  rcases ho with rfl | rfl | rfl | rfl | rfl | rfl | rfl | rfl | rfl | rfl
  all_goals
    go_enter Tryd.func128, Tryd.ntmps128
    go_wp2_with fail
    refine (c0 _).mono ?_
    rintro e w' ⟨rfl, rfl⟩
    cases q0
    · go_wp2_with fail
      go_ret
      exact ⟨rfl, below2 _ _ _⟩
    · go_wp2_with fail
      refine (c1 _).mono ?_
      rintro e w' ⟨rfl, rfl⟩
      cases q1
      · go_wp2_with fail
        go_ret
        exact ⟨rfl, below2 _ _ _⟩
      · go_wp2_with fail
        refine (c2 _).mono ?_
        rintro e w' ⟨rfl, rfl⟩
        go_wp2_with fail
        go_ret
        exact ⟨rfl, below2 _ _ _⟩
set_option maxHeartbeats 2000000 in
theorem rnam_st (Al : Int) (A : Option Addr) (n c : Nat) (o a b d m : Int) (w : World) (ho : o = 16) :
    Calls Tryd.prog 128 #[tv Al A n c, iv o a b d m] w fun e w' => e = .returned (.bool (namB n ⟨o, a, b, d, m⟩)) ∧ Below w.heap.size w w' := by
  have c0 := fun W => rwith10_any b 8 W
  obtain ⟨q0, hq0⟩ : ∃ q, withB b 8 = q := ⟨_, rfl⟩
  rw [hq0] at c0
  have HN : Hid (namB n ⟨o, a, b, d, m⟩ = (q0)) := by
    show namB n ⟨o, a, b, d, m⟩ = _
    have hs : mshpOf o = (2, 1, 3, (mshpOf o).2.2.2) := by rcases ho with rfl <;> rfl
    rw [namB_at hs]
    simp only [okM1, okM2, okM3, hq0, Bool.true_and, Bool.and_true]
  rw [HN.out]
  clear HN hq0
  rcases ho with rfl
  all_goals
    go_enter Tryd.func128, Tryd.ntmps128
    go_wp2_with fail
    refine (c0 _).mono ?_
    rintro e w' ⟨rfl, rfl⟩
    go_wp2_with fail
    go_ret
    exact ⟨rfl, below2 _ _ _⟩
set_option maxHeartbeats 2000000 in
theorem rnam_ca (Al : Int) (A : Option Addr) (n c : Nat) (o a b d m : Int) (w : World) (ho : o = 22) :
    Calls Tryd.prog 128 #[tv Al A n c, iv o a b d m] w fun e w' => e = .returned (.bool (namB n ⟨o, a, b, d, m⟩)) ∧ Below w.heap.size w w' := by
  have c0 := fun W => rwith10_any a n W
  obtain ⟨q0, hq0⟩ : ∃ q, withB a n = q := ⟨_, rfl⟩
  rw [hq0] at c0
  have HN : Hid (namB n ⟨o, a, b, d, m⟩ = (q0)) := by
    show namB n ⟨o, a, b, d, m⟩ = _
    have hs : mshpOf o = (4, 0, 0, (mshpOf o).2.2.2) := by rcases ho with rfl <;> rfl
    rw [namB_at hs]
    simp only [okM0, okM4, hq0, Bool.true_and, Bool.and_true]
  rw [HN.out]
  clear HN hq0
  rcases ho with rfl
  all_goals
    go_enter Tryd.func128, Tryd.ntmps128
    go_wp2_with fail
    refine (c0 _).mono ?_
    rintro e w' ⟨rfl, rfl⟩
    go_wp2_with fail
    go_ret
    exact ⟨rfl, below2 _ _ _⟩
set_option maxHeartbeats 2000000 in
theorem rnam_mv (Al : Int) (A : Option Addr) (n c : Nat) (o a b d m : Int) (w : World) (ho : o = 17) :
    Calls Tryd.prog 128 #[tv Al A n c, iv o a b d m] w fun e w' => e = .returned (.bool (namB n ⟨o, a, b, d, m⟩)) ∧ Below w.heap.size w w' := by
  have HN : Hid (namB n ⟨o, a, b, d, m⟩ = (true)) := by
    show namB n ⟨o, a, b, d, m⟩ = _
    have hs : mshpOf o = (2, 2, 3, (mshpOf o).2.2.2) := by rcases ho with rfl <;> rfl
    rw [namB_at hs]
    rfl
  rw [HN.out]
  clear HN 
  rcases ho with rfl
  all_goals
    go_enter Tryd.func128, Tryd.ntmps128
    go_wp2_with fail
    go_ret
    exact ⟨rfl, below2 _ _ _⟩
set_option maxHeartbeats 2000000 in
theorem rnam_ju (Al : Int) (A : Option Addr) (n c : Nat) (o a b d m : Int) (w : World) (ho : o = 20) :
    Calls Tryd.prog 128 #[tv Al A n c, iv o a b d m] w fun e w' => e = .returned (.bool (namB n ⟨o, a, b, d, m⟩)) ∧ Below w.heap.size w w' := by
  have HN : Hid (namB n ⟨o, a, b, d, m⟩ = (true)) := by
    show namB n ⟨o, a, b, d, m⟩ = _
    have hs : mshpOf o = (5, 0, 0, (mshpOf o).2.2.2) := by rcases ho with rfl <;> rfl
    rw [namB_at hs]
    rfl
  rw [HN.out]
  clear HN 
  rcases ho with rfl
  all_goals
    go_enter Tryd.func128, Tryd.ntmps128
    go_wp2_with fail
    go_ret
    exact ⟨rfl, below2 _ _ _⟩
set_option maxHeartbeats 2000000 in
theorem rnam_no (Al : Int) (A : Option Addr) (n c : Nat) (o a b d m : Int) (w : World) (ho : o = 23 ∨ o = 24) :
    Calls Tryd.prog 128 #[tv Al A n c, iv o a b d m] w fun e w' => e = .returned (.bool (namB n ⟨o, a, b, d, m⟩)) ∧ Below w.heap.size w w' := by
  have HN : Hid (namB n ⟨o, a, b, d, m⟩ = (true)) := by
    show namB n ⟨o, a, b, d, m⟩ = _
    have hs : mshpOf o = (0, 0, 0, (mshpOf o).2.2.2) := by rcases ho with rfl | rfl <;> rfl
    rw [namB_at hs]
    rfl
  rw [HN.out]
  clear HN 
  rcases ho with rfl | rfl
  all_goals
    go_enter Tryd.func128, Tryd.ntmps128
    go_wp2_with fail
    go_ret
    exact ⟨rfl, below2 _ _ _⟩
theorem rnamed_any (Al : Int) (A : Option Addr) (n c : Nat) (o a b d m : Int) (w : World) (h0 : 0 ≤ o) (h1 : o < 25) (hx : exB o = true) :
    Calls Tryd.prog 128 #[tv Al A n c, iv o a b d m] w fun e w' => e = .returned (.bool (namB n ⟨o, a, b, d, m⟩)) ∧ Below w.heap.size w w' := by
  have hc : (o = 0 ∨ o = 13 ∨ o = 14) ∨ (o = 15) ∨ (o = 21) ∨ (o = 1 ∨ o = 12) ∨ (o = 2 ∨ o = 3 ∨ o = 4 ∨ o = 5 ∨ o = 6 ∨ o = 7 ∨ o = 8 ∨ o = 9 ∨ o = 10 ∨ o = 11) ∨ (o = 16) ∨ (o = 22) ∨ (o = 17) ∨ (o = 20) ∨ (o = 23 ∨ o = 24) := by
    have h18 : o ≠ 18 := by rintro rfl; exact absurd hx (by decide)
    have h19 : o ≠ 19 := by rintro rfl; exact absurd hx (by decide)
    omega
  rcases hc with h | h | h | h | h | h | h | h | h | h
  · exact rnam_a Al A n c o a b d m w h
  · exact rnam_ld Al A n c o a b d m w h
  · exact rnam_br Al A n c o a b d m w h
  · exact rnam_ab Al A n c o a b d m w h
  · exact rnam_abc Al A n c o a b d m w h
  · exact rnam_st Al A n c o a b d m w h
  · exact rnam_ca Al A n c o a b d m w h
  · exact rnam_mv Al A n c o a b d m w h
  · exact rnam_ju Al A n c o a b d m w h
  · exact rnam_no Al A n c o a b d m w h
end Go.Proofs.YtlkcjjalkdlicaaDoor
end

section
/-
  The contracts of the reference's Reads and Writes: what an instruction reads and writes. Conditions: those of the types.
-/
namespace Go.Proofs.YtlkcjjalkdlicaaDoor
open Go.RowKit

set_option maxHeartbeats 400000 in
theorem rreads_any (P S : Int) (A : Option Addr) (n cp : Nat) (o a b c m : Int) (w : World) :
    Calls Tryd.prog 129 #[mv P S A n cp, iv o a b c m] w fun e w' => e = .returned (.tuple #[pv (rdI ⟨o, a, b, c, m⟩).1 (rdI ⟨o, a, b, c, m⟩).2, .bool (rdB o)]) ∧ Below w.heap.size w w' := by
  by_cases h1 : o = 15
  · subst h1
    obtain ⟨W, hW, hbW, hsW, r0, r1, r2⟩ := boxes3 w [.int .i64 P, .int .i64 S, .slice A n cp] [.int .i64 15, .int .i64 a, .int .i64 b, .int .i64 c, .int .u64 m] [.int .i64 0, .int .i64 0] 83 65 148
    have HW := hide hW
    have HB := hide hbW
    have HS := hide hsW
    have R := hide r2
    have x0 := r1.cell (k := 0) rfl
    have x1 := r1.cell (k := 1) rfl
    have x2 := r1.cell (k := 2) rfl
    have x3 := r1.cell (k := 3) rfl
    have y0 := r2.free 0
    have y1 := r2.free 1
    have z0 := r2.cell (k := 0) rfl
    have z1 := r2.cell (k := 1) rfl
    clear hW hbW hsW r0 r1 r2
    go_enter Tryd.func129, Tryd.ntmps129
    go_upto_region 1 with (fail)
    rw [HW.out]
    clear HW
    go_wp2_with fail
    obtain ⟨W7, hW7⟩ : ∃ V, (W.setCell ⟨w.heap.size + 1 + 1, 0, none⟩ (.int .i64 b)).setCell ⟨w.heap.size + 1 + 1, 1, none⟩ (.int .i64 c) = V := ⟨_, rfl⟩
    have R7 : Row W7 (w.heap.size + 1 + 1) 148 [.int .i64 b, .int .i64 c] := by rw [← hW7]; exact (R.out.set_ 0 _).set_ 1 _
    have B7 : Below w.heap.size w W7 := by rw [← hW7]; exact (HB.out.setCell (p := ⟨w.heap.size + 1 + 1, 0, none⟩) (by simp; omega) _).setCell (p := ⟨w.heap.size + 1 + 1, 1, none⟩) (by simp; omega) _
    rw [hW7]
    have u0 := R7.cell (k := 0) rfl
    have u1 := R7.cell (k := 1) rfl
    refine bodyPost_ret (v := .tuple #[pv b c, .bool true]) (by simp [results, Tryd.results129, go_sem, u0, u1]) rfl ?_
    exact ⟨rfl, B7⟩
  · by_cases h2 : o = 17
    · subst h2
      obtain ⟨W, hW, hbW, hsW, r0, r1, r2⟩ := boxes3 w [.int .i64 P, .int .i64 S, .slice A n cp] [.int .i64 17, .int .i64 a, .int .i64 b, .int .i64 c, .int .u64 m] [.int .i64 0, .int .i64 0] 83 65 148
      have HW := hide hW
      have HB := hide hbW
      have HS := hide hsW
      have R := hide r2
      have x0 := r1.cell (k := 0) rfl
      have x1 := r1.cell (k := 1) rfl
      have x2 := r1.cell (k := 2) rfl
      have x3 := r1.cell (k := 3) rfl
      have y0 := r2.free 0
      have y1 := r2.free 1
      have z0 := r2.cell (k := 0) rfl
      have z1 := r2.cell (k := 1) rfl
      clear hW hbW hsW r0 r1 r2
      go_enter Tryd.func129, Tryd.ntmps129
      go_upto_region 1 with (fail)
      rw [HW.out]
      clear HW
      go_wp2_with fail
      obtain ⟨W7, hW7⟩ : ∃ V, (W.setCell ⟨w.heap.size + 1 + 1, 0, none⟩ (.int .i64 b)).setCell ⟨w.heap.size + 1 + 1, 1, none⟩ (.int .i64 c) = V := ⟨_, rfl⟩
      have R7 : Row W7 (w.heap.size + 1 + 1) 148 [.int .i64 b, .int .i64 c] := by rw [← hW7]; exact (R.out.set_ 0 _).set_ 1 _
      have B7 : Below w.heap.size w W7 := by rw [← hW7]; exact (HB.out.setCell (p := ⟨w.heap.size + 1 + 1, 0, none⟩) (by simp; omega) _).setCell (p := ⟨w.heap.size + 1 + 1, 1, none⟩) (by simp; omega) _
      rw [hW7]
      have u0 := R7.cell (k := 0) rfl
      have u1 := R7.cell (k := 1) rfl
      refine bodyPost_ret (v := .tuple #[pv b c, .bool true]) (by simp [results, Tryd.results129, go_sem, u0, u1]) rfl ?_
      exact ⟨rfl, B7⟩
    · have b1 : (o == 15) = false := by simpa using h1
      have b2 : (o == 17) = false := by simpa using h2
      have d1 : (o != 15) = true := by simpa using h1
      have d2 : (o != 17) = true := by simpa using h2
      have e := hide (show rdB o = false by simp [rdB, h1, h2])
      have e2 := hide (show rdI ⟨o, a, b, c, m⟩ = (0, 0) by unfold rdI; rw [show rdB (Ins.op ⟨o, a, b, c, m⟩) = false from e.out]; rfl)
      clear h1 h2
      obtain ⟨W, hW, hbW, hsW, r0, r1, r2⟩ := boxes3 w [.int .i64 P, .int .i64 S, .slice A n cp] [.int .i64 o, .int .i64 a, .int .i64 b, .int .i64 c, .int .u64 m] [.int .i64 0, .int .i64 0] 83 65 148
      have HW := hide hW
      have HB := hide hbW
      have HS := hide hsW
      have R := hide r2
      have x0 := r1.cell (k := 0) rfl
      have x1 := r1.cell (k := 1) rfl
      have x2 := r1.cell (k := 2) rfl
      have x3 := r1.cell (k := 3) rfl
      have y0 := r2.free 0
      have y1 := r2.free 1
      have z0 := r2.cell (k := 0) rfl
      have z1 := r2.cell (k := 1) rfl
      clear hW hbW hsW r0 r1 r2
      go_enter Tryd.func129, Tryd.ntmps129
      go_upto_region 1 with (fail)
      rw [HW.out]
      clear HW
      go_wp2_with fail
      obtain ⟨W7, hW7⟩ : ∃ V, (W.setCell ⟨w.heap.size + 1 + 1, 0, none⟩ (.int .i64 0)).setCell ⟨w.heap.size + 1 + 1, 1, none⟩ (.int .i64 0) = V := ⟨_, rfl⟩
      have R7 : Row W7 (w.heap.size + 1 + 1) 148 [.int .i64 0, .int .i64 0] := by rw [← hW7]; exact (R.out.set_ 0 _).set_ 1 _
      have B7 : Below w.heap.size w W7 := by rw [← hW7]; exact (HB.out.setCell (p := ⟨w.heap.size + 1 + 1, 0, none⟩) (by simp; omega) _).setCell (p := ⟨w.heap.size + 1 + 1, 1, none⟩) (by simp; omega) _
      rw [hW7]
      have u0 := R7.cell (k := 0) rfl
      have u1 := R7.cell (k := 1) rfl
      refine bodyPost_ret (v := .tuple #[pv 0 0, .bool false]) (by simp [results, Tryd.results129, go_sem, u0, u1]) rfl ?_
      exact ⟨by rw [e.out, e2.out], B7⟩
set_option maxHeartbeats 400000 in
theorem rwrites_any (P S : Int) (A : Option Addr) (n cp : Nat) (o a b c m : Int) (w : World) :
    Calls Tryd.prog 130 #[mv P S A n cp, iv o a b c m] w fun e w' => e = .returned (.tuple #[pv (wrI ⟨o, a, b, c, m⟩).1 (wrI ⟨o, a, b, c, m⟩).2, .bool (wrB o)]) ∧ Below w.heap.size w w' := by
  by_cases h1 : o = 16
  · subst h1
    obtain ⟨W, hW, hbW, hsW, r0, r1, r2⟩ := boxes3 w [.int .i64 P, .int .i64 S, .slice A n cp] [.int .i64 16, .int .i64 a, .int .i64 b, .int .i64 c, .int .u64 m] [.int .i64 0, .int .i64 0] 83 65 148
    have HW := hide hW
    have HB := hide hbW
    have HS := hide hsW
    have R := hide r2
    have x0 := r1.cell (k := 0) rfl
    have x1 := r1.cell (k := 1) rfl
    have x2 := r1.cell (k := 2) rfl
    have x3 := r1.cell (k := 3) rfl
    have y0 := r2.free 0
    have y1 := r2.free 1
    have z0 := r2.cell (k := 0) rfl
    have z1 := r2.cell (k := 1) rfl
    clear hW hbW hsW r0 r1 r2
    go_enter Tryd.func130, Tryd.ntmps130
    go_upto_region 1 with (fail)
    rw [HW.out]
    clear HW
    go_wp2_with fail
    obtain ⟨W7, hW7⟩ : ∃ V, (W.setCell ⟨w.heap.size + 1 + 1, 0, none⟩ (.int .i64 a)).setCell ⟨w.heap.size + 1 + 1, 1, none⟩ (.int .i64 c) = V := ⟨_, rfl⟩
    have R7 : Row W7 (w.heap.size + 1 + 1) 148 [.int .i64 a, .int .i64 c] := by rw [← hW7]; exact (R.out.set_ 0 _).set_ 1 _
    have B7 : Below w.heap.size w W7 := by rw [← hW7]; exact (HB.out.setCell (p := ⟨w.heap.size + 1 + 1, 0, none⟩) (by simp; omega) _).setCell (p := ⟨w.heap.size + 1 + 1, 1, none⟩) (by simp; omega) _
    rw [hW7]
    have u0 := R7.cell (k := 0) rfl
    have u1 := R7.cell (k := 1) rfl
    refine bodyPost_ret (v := .tuple #[pv a c, .bool true]) (by simp [results, Tryd.results130, go_sem, u0, u1]) rfl ?_
    exact ⟨rfl, B7⟩
  · by_cases h2 : o = 17
    · subst h2
      obtain ⟨W, hW, hbW, hsW, r0, r1, r2⟩ := boxes3 w [.int .i64 P, .int .i64 S, .slice A n cp] [.int .i64 17, .int .i64 a, .int .i64 b, .int .i64 c, .int .u64 m] [.int .i64 0, .int .i64 0] 83 65 148
      have HW := hide hW
      have HB := hide hbW
      have HS := hide hsW
      have R := hide r2
      have x0 := r1.cell (k := 0) rfl
      have x1 := r1.cell (k := 1) rfl
      have x2 := r1.cell (k := 2) rfl
      have x3 := r1.cell (k := 3) rfl
      have y0 := r2.free 0
      have y1 := r2.free 1
      have z0 := r2.cell (k := 0) rfl
      have z1 := r2.cell (k := 1) rfl
      clear hW hbW hsW r0 r1 r2
      go_enter Tryd.func130, Tryd.ntmps130
      go_upto_region 1 with (fail)
      rw [HW.out]
      clear HW
      go_wp2_with fail
      obtain ⟨W7, hW7⟩ : ∃ V, (W.setCell ⟨w.heap.size + 1 + 1, 0, none⟩ (.int .i64 a)).setCell ⟨w.heap.size + 1 + 1, 1, none⟩ (.int .i64 c) = V := ⟨_, rfl⟩
      have R7 : Row W7 (w.heap.size + 1 + 1) 148 [.int .i64 a, .int .i64 c] := by rw [← hW7]; exact (R.out.set_ 0 _).set_ 1 _
      have B7 : Below w.heap.size w W7 := by rw [← hW7]; exact (HB.out.setCell (p := ⟨w.heap.size + 1 + 1, 0, none⟩) (by simp; omega) _).setCell (p := ⟨w.heap.size + 1 + 1, 1, none⟩) (by simp; omega) _
      rw [hW7]
      have u0 := R7.cell (k := 0) rfl
      have u1 := R7.cell (k := 1) rfl
      refine bodyPost_ret (v := .tuple #[pv a c, .bool true]) (by simp [results, Tryd.results130, go_sem, u0, u1]) rfl ?_
      exact ⟨rfl, B7⟩
    · have b1 : (o == 16) = false := by simpa using h1
      have b2 : (o == 17) = false := by simpa using h2
      have d1 : (o != 16) = true := by simpa using h1
      have d2 : (o != 17) = true := by simpa using h2
      have e := hide (show wrB o = false by simp [wrB, h1, h2])
      have e2 := hide (show wrI ⟨o, a, b, c, m⟩ = (0, 0) by unfold wrI; rw [show wrB (Ins.op ⟨o, a, b, c, m⟩) = false from e.out]; rfl)
      clear h1 h2
      obtain ⟨W, hW, hbW, hsW, r0, r1, r2⟩ := boxes3 w [.int .i64 P, .int .i64 S, .slice A n cp] [.int .i64 o, .int .i64 a, .int .i64 b, .int .i64 c, .int .u64 m] [.int .i64 0, .int .i64 0] 83 65 148
      have HW := hide hW
      have HB := hide hbW
      have HS := hide hsW
      have R := hide r2
      have x0 := r1.cell (k := 0) rfl
      have x1 := r1.cell (k := 1) rfl
      have x2 := r1.cell (k := 2) rfl
      have x3 := r1.cell (k := 3) rfl
      have y0 := r2.free 0
      have y1 := r2.free 1
      have z0 := r2.cell (k := 0) rfl
      have z1 := r2.cell (k := 1) rfl
      clear hW hbW hsW r0 r1 r2
      go_enter Tryd.func130, Tryd.ntmps130
      go_upto_region 1 with (fail)
      rw [HW.out]
      clear HW
      go_wp2_with fail
      obtain ⟨W7, hW7⟩ : ∃ V, (W.setCell ⟨w.heap.size + 1 + 1, 0, none⟩ (.int .i64 0)).setCell ⟨w.heap.size + 1 + 1, 1, none⟩ (.int .i64 0) = V := ⟨_, rfl⟩
      have R7 : Row W7 (w.heap.size + 1 + 1) 148 [.int .i64 0, .int .i64 0] := by rw [← hW7]; exact (R.out.set_ 0 _).set_ 1 _
      have B7 : Below w.heap.size w W7 := by rw [← hW7]; exact (HB.out.setCell (p := ⟨w.heap.size + 1 + 1, 0, none⟩) (by simp; omega) _).setCell (p := ⟨w.heap.size + 1 + 1, 1, none⟩) (by simp; omega) _
      rw [hW7]
      have u0 := R7.cell (k := 0) rfl
      have u1 := R7.cell (k := 1) rfl
      refine bodyPost_ret (v := .tuple #[pv 0 0, .bool false]) (by simp [results, Tryd.results130, go_sem, u0, u1]) rfl ?_
      exact ⟨by rw [e.out, e2.out], B7⟩
end Go.Proofs.YtlkcjjalkdlicaaDoor
end

section
/-
  The contract of the reference's Terminator (chapter 5). No condition.
-/
namespace Go.Proofs.YtlkcjjalkdlicaaDoor
open Go.RowKit

theorem r5term_any (op : Int) (w : World) : Calls Tryd.prog 100 #[.int .i64 op] w fun e w' => e = .returned (.bool (termB op)) ∧ w = w' := by
  by_cases h1 : op = 20
  · subst h1
    go_enter Tryd.func100, Tryd.ntmps100
    go_wp2_with fail
    go_ret
    exact ⟨rfl, rfl⟩
  · by_cases h2 : op = 23
    · subst h2
      go_enter Tryd.func100, Tryd.ntmps100
      go_wp2_with fail
      go_ret
      exact ⟨rfl, rfl⟩
    · have b1 : (op == 20) = false := by simpa using h1
      have b2 : (op == 23) = false := by simpa using h2
      have e := hide (show termB op = (op == 24) by simp [termB, b1, b2])
      clear h1 h2
      go_enter Tryd.func100, Tryd.ntmps100
      go_wp2_with fail
      go_ret
      exact ⟨ret_bool e.out.symm, rfl⟩
end Go.Proofs.YtlkcjjalkdlicaaDoor
end

section
/-
  What a slice of bytes that came in gives. No function of the program is named here.
-/
namespace Go.Proofs.YtlkcjjalkdlicaaDoor
open Go.ChangeShapes Go.WideShapes Go.ChangeAt Go.RowKit Go.Joins

/-- What a slice of bytes that came in gives. -/
theorem open_bs {H : Type} {enc : TypeId × Value → H} {P : Program} {W : World} {base : Nat} {t e : TypeId} {v : Value} {d : DataW H} {p : List MemPlace} (ht : P.underlying t = some (.slice e)) (he : P.underlying e = some (.int .u8)) (hc : P.cellsOf e = 1)
    (hval : Value.okWide P W .any base t v) (h : DataW.Trod enc P W 0 (fun _ => true) true t v d p) :
    ∃ (A : Option Addr) (n c : Nat) (zs : List Int), v = .slice A n c ∧ BsAt W W.heap.size A n c zs := by
  obtain ⟨A, n, c, zs, rfl, hA, hn, hm, hs, hz, hnc⟩ := open_u8s ht he hc hval h
  refine ⟨A, n, c, zs, rfl, hn, hnc, hA, ?_, hz, hs⟩
  obtain ⟨fuel, hf⟩ := h
  rcases open_ints ht he hc hf with ⟨hcs, hx⟩ | ⟨a, len', cap', zs', hcs, _, hlc, hm', _⟩
  · simp [Value.cells] at hcs
    omega
  · simp [Value.cells] at hcs
    obtain ⟨rfl, rfl, rfl⟩ := hcs
    unfold maxLen at hm'
    exact hm'
theorem cells_u8 : Tryd.prog.cellsOf 5 = 1 := by kernel_rfl
end Go.Proofs.YtlkcjjalkdlicaaDoor
end
