import Derived.Test.YtipjeihfhnilcaaMKmw
import Derived.Test.YtipjeihfhnilcaaMKuse
import Derived.Test.YtipjeihfhnilcaaMVbytes
import Derived.Test.YtipjeihfhnilcaaMInv
import Derived.Deep.DeepFit
import Derived.Deep.RegionHeld3
set_option linter.unusedVariables false
set_option linter.unusedSimpArgs false
section
/-
  The contracts of Memory's Store and Move (chapter 9): the stack behind each, or the stack as it was with the error. Conditions: those of the types; the stack is one for which Check is true.
-/
namespace Go.Proofs.Ytipjeihfhnilcaa
open Go.RowKit
attribute [local go_sem ↓] Go.wp_at_zero Go.wp_at_succ

theorem map_add0 (b k : Nat) : (some (⟨b, 0, none⟩ : Addr)).map (·.add k) = some ⟨b, k, none⟩ := by
  show some ((⟨b, 0, none⟩ : Addr).add k) = _
  congr 1
  unfold Addr.add
  split <;> simp_all
section
variable {g o base : Nat} {T : TypeId} {cs : List Value} {A1 A2 : Option Addr} {c1 c2 : Nat} {S : Sk}
/-- How Store returns. -/
def StPost (g o base : Nat) (T : TypeId) (cs : List Value) (A1 : Option Addr) (c1 : Nat) (A2 : Option Addr) (c2 : Nat) (S' : Sk) (r : Value) (w : World) (e : Ending) (w' : World) : Prop :=
  e = .returned r ∧ MemAt w' g o base T cs A1 c1 A2 c2 S' ∧ MKp w w' g base
set_option maxRecDepth 100000 in
set_option maxHeartbeats 4000000 in
theorem mstore_any (off n : Int) (X : Nat) (hX : X < two128) (w : World) (h : Hid (MemAt w g o base T cs A1 c1 A2 c2 S)) :
    Calls Try.prog 41 #[.pointer (some ⟨g, o, none⟩), .int .i64 off, .int .i64 n, vv X] w (StPost g o base T cs A1 c1 A2 c2 (storeR S off n X) (.int .i64 (fitE S off n)) w) := by
  have hok := hide h.out.own.ok
  have hmost := hok.out.most
  have hsp := hok.out.sp
  obtain ⟨W1, hW1⟩ : ∃ W, w.alloc (.cells #[.int .u64 (lo X), .int .u64 (hi X)] 39) = W := ⟨_, rfl⟩
  have HW1 := hide hW1
  have R1 := hide (show Row W1 w.heap.size 39 [.int .u64 (lo X), .int .u64 (hi X)] by rw [← hW1]; exact Row.new w _ _)
  have hb1 : Below w.heap.size w W1 := by rw [← hW1]; exact below1 w _
  have H1 := hide (h.out.call hb1)
  have K1 := hide (MKp.of_below hb1 g base)
  have hgX := hide (show w.heap.size ≠ g by have := h.out.row.lt; omega)
  have x0 := H1.out.row.cell H1.out.k0
  have x1 := H1.out.row.cell H1.out.k1
  have x2 := H1.out.row.cell H1.out.k2
  clear hW1 hb1
  cases hf : fitB S off n with
  | false =>
    obtain ⟨hE, hR⟩ := store_no (X := X) hf
    have cf := fits_any (A1 := A1) (A2 := A2) (c1 := c1) (c2 := c2) off n W1 hok
    rw [hf] at cf
    rw [hE, hR]
    clear hf hE hR
    go_enter Try.func41, Try.ntmps41
    go_upto_region 1 with (fail)
    rw [HW1.out]
    go_wp2_with fail
    refine cf.mono ?_
    rintro e w2 ⟨rfl, hb2⟩
    have H2 := hide (H1.out.call hb2)
    have K2 := hide (K1.out.trans (MKp.of_below hb2 g base))
    clear hb2 cf x0 x1 x2
    go_wp2_with fail
    go_ret
    exact ⟨rfl, H2.out, K2.out⟩
  | true =>
    obtain ⟨a, m, rfl, rfl, hm0, hm16, hfit⟩ := fit_nat hf
    obtain ⟨hE, hR⟩ := store_yes (X := X) hf
    have cf := fits_any (A1 := A1) (A2 := A2) (c1 := c1) (c2 := c2) (a : Int) (m : Int) W1 hok
    rw [hf] at cf
    have cb := bytes_any X (m : Int)
    rw [show szN (m : Int) = m from by have := szN_yes (fitB_iff.1 hf).1; omega] at cb
    rw [hE, hR]
    clear hf hE hR
    go_enter Try.func41, Try.ntmps41
    go_upto_region 1 with (fail)
    rw [HW1.out]
    go_wp2_with fail
    refine cf.mono ?_
    rintro e w2 ⟨rfl, hb2⟩
    have H2 := hide (H1.out.call hb2)
    have R2 := hide (R1.out.call hb2)
    have K2 := hide (K1.out.trans (MKp.of_below hb2 g base))
    clear hb2 cf x0 x1 x2
    have x2 := H2.out.row.cell H2.out.k2
    have v0 := R2.out.cell (k := 0) rfl
    have v1 := R2.out.cell (k := 1) rfl
    have hwr : IntKind.i64.wrap ((S.sp : Int) + (a : Int)) = (S.sp : Int) + (a : Int) := by rw [IntKind.wrap_i64]; omega
    have cw := fun (w5 : World) (A3 : Option Addr) (c3 B5 : Nat) (hb5 : Below w2.heap.size w2 w5) (ho5 : w5.ownsRow B5 5 1 (.slice A3 m c3) m (cellsU8 (bytesV X m))) => mwrite_any (S.sp + a) m A3 c3 (bytesV X m) w5 (hide (H2.out.call hb5)) (hide (Sees.own ho5)) (hide (bytesV_length X m)) (hide (bytesV_mem X m)) hm0 hm16 hfit
    rw [show ((S.sp + a : Nat) : Int) = (S.sp : Int) + (a : Int) by omega] at cw
    go_upto_region 3 with (fail)
    go_region_held3 (fun w' => w'.cell? ⟨g, o + 2, none⟩ = some (.int .i64 (S.sp : Int)) ∧ w'.cell? ⟨w.heap.size, 0, none⟩ = some (.int .u64 (lo X)) ∧ w'.cell? ⟨w.heap.size, 1, none⟩ = some (.int .u64 (hi X))) (first | go_keep | exact m5 | exact m6)
      (first
        | (go_at_call 62; go_fit (cb _ hX); rintro e w5 ⟨r5, rfl, ho5, hb5⟩; have b5 := hide (show Below w2.heap.size w2 w5 from Below.trans (below_draws (Below.refl w2.heap.size w2) _) hb5); have m5 := (⟨(H2.out.call b5.out).row.cell H2.out.k2, (R2.out.call b5.out).cell (k := 0) rfl, (R2.out.call b5.out).cell (k := 1) rfl⟩ : w5.cell? ⟨g, o + 2, none⟩ = some (.int .i64 (S.sp : Int)) ∧ w5.cell? ⟨w.heap.size, 0, none⟩ = some (.int .u64 (lo X)) ∧ w5.cell? ⟨w.heap.size, 1, none⟩ = some (.int .u64 (hi X))); obtain ⟨A3, c3, hr5, _⟩ := own_form ho5; subst hr5; clear hb5)
        | (go_at_call 61; go_fit (cw _ _ _ _ b5.out ho5); rintro e w6 ⟨rfl, h6, k6⟩; have H6 := hide h6; have K6 := hide (K2.out.trans ((MKp.of_below b5.out g base).trans k6)); have m6 := (⟨h6.row.cell h6.k2, (k6.row (R2.out.call b5.out) hgX.out (.inr (by decide))).cell (k := 0) rfl, (k6.row (R2.out.call b5.out) hgX.out (.inr (by decide))).cell (k := 1) rfl⟩ : w6.cell? ⟨g, o + 2, none⟩ = some (.int .i64 (S.sp : Int)) ∧ w6.cell? ⟨w.heap.size, 0, none⟩ = some (.int .u64 (lo X)) ∧ w6.cell? ⟨w.heap.size, 1, none⟩ = some (.int .u64 (hi X))); clear h6 k6))
    go_wp2_with fail
    go_ret
    exact ⟨rfl, H6.out, K6.out⟩
set_option maxRecDepth 100000 in
set_option maxHeartbeats 4000000 in
theorem mmove_any (dst src n : Int) (w : World) (h : Hid (MemAt w g o base T cs A1 c1 A2 c2 S)) :
    Calls Try.prog 56 #[.pointer (some ⟨g, o, none⟩), .int .i64 dst, .int .i64 src, .int .i64 n] w (StPost g o base T cs A1 c1 A2 c2 (moveR S dst src n) (.tuple #[.bool (moveB S dst src n), .int .i64 (moveE S dst src n)]) w) := by
  have hok := hide h.out.own.ok
  have hmost := hok.out.most
  have hsp := hok.out.sp
  have cf := fun (q : Int) (W : World) => fits_any (A1 := A1) (A2 := A2) (c1 := c1) (c2 := c2) q n W hok
  have x0 := h.out.row.cell h.out.k0
  have x1 := h.out.row.cell h.out.k1
  have x2 := h.out.row.cell h.out.k2
  cases hf : fitB S dst n with
  | false =>
    obtain ⟨hE, hB, hR⟩ := move_no (dst := dst) (src := src) (n := n) (S := S) (.inl hf)
    have cf := cf dst w
    rw [hf] at cf
    rw [hE, hB, hR]
    clear hf hE hB hR
    go_enter Try.func56, Try.ntmps56
    go_wp2_with fail
    refine cf.mono ?_
    rintro e w2 ⟨rfl, hb2⟩
    have H2 := hide (h.out.call hb2)
    have K2 := hide (MKp.of_below hb2 g base)
    clear hb2 cf x0 x1 x2
    go_wp2_with fail
    go_ret2
    exact ⟨rfl, H2.out, K2.out⟩
  | true =>
    have cf1 := cf dst w
    rw [hf] at cf1
    cases hf2 : fitB S src n with
    | false =>
      obtain ⟨hE, hB, hR⟩ := move_no (dst := dst) (src := src) (n := n) (S := S) (.inr hf2)
      have cf2 := fun W => cf src W
      rw [hf2] at cf2
      rw [hE, hB, hR]
      clear hf hf2 hE hB hR cf
      go_enter Try.func56, Try.ntmps56
      go_wp2_with fail
      refine cf1.mono ?_
      rintro e w2 ⟨rfl, hb2⟩
      have H2 := hide (h.out.call hb2)
      have K2 := hide (MKp.of_below hb2 g base)
      clear hb2 cf1 x0 x1 x2
      have x0 := H2.out.row.cell H2.out.k0
      have x1 := H2.out.row.cell H2.out.k1
      have x2 := H2.out.row.cell H2.out.k2
      go_wp2_with fail
      refine (cf2 w2).mono ?_
      rintro e w3 ⟨rfl, hb3⟩
      have H3 := hide (H2.out.call hb3)
      have K3 := hide (K2.out.trans (MKp.of_below hb3 g base))
      clear hb3 cf2 x0 x1 x2
      go_wp2_with fail
      go_ret2
      exact ⟨rfl, H3.out, K3.out⟩
    | true =>
      obtain ⟨a, m, rfl, rfl, hm0, hm16, hfit⟩ := fit_nat hf2
      obtain ⟨d, m', rfl, hmm, _, _, hfitd⟩ := fit_nat hf
      obtain rfl : m = m' := by omega
      clear hmm
      have cf2 := fun W => cf (a : Int) W
      rw [hf2] at cf2
      have hws : IntKind.i64.wrap ((S.sp : Int) + (a : Int)) = (S.sp : Int) + (a : Int) := by rw [IntKind.wrap_i64]; omega
      have hwd : IntKind.i64.wrap ((S.sp : Int) + (d : Int)) = (S.sp : Int) + (d : Int) := by rw [IntKind.wrap_i64]; omega
      have hwm : IntKind.i64.wrap ((S.sp : Int) + (a : Int) + (m : Int)) = (S.sp : Int) + (a : Int) + (m : Int) := by rw [IntKind.wrap_i64]; omega
      have cu := fun W (hW : StkAt W W.heap.size A1 c1 A2 c2 S) => used_any (S.sp + a) m W (hide hW) hm0 hfit
      rw [show ((S.sp + a : Nat) : Int) = (S.sp : Int) + (a : Int) by omega] at cu
      cases hu : usedB S (S.sp + a) m with
      | false =>
        obtain ⟨hE, hB, hR⟩ := move_undef hf hf2 hu
        rw [hu] at cu
        rw [hE, hB, hR]
        clear hf hf2 hE hB hR cf hu
        go_enter Try.func56, Try.ntmps56
        go_wp2_with fail
        refine cf1.mono ?_
        rintro e w2 ⟨rfl, hb2⟩
        have H2 := hide (h.out.call hb2)
        have K2 := hide (MKp.of_below hb2 g base)
        clear hb2 cf1 x0 x1 x2
        have x0 := H2.out.row.cell H2.out.k0
        have x1 := H2.out.row.cell H2.out.k1
        have x2 := H2.out.row.cell H2.out.k2
        go_wp2_with fail
        refine (cf2 w2).mono ?_
        rintro e w3 ⟨rfl, hb3⟩
        have H3 := hide (H2.out.call hb3)
        have K3 := hide (K2.out.trans (MKp.of_below hb3 g base))
        clear hb3 cf2 x0 x1 x2
        have x0 := H3.out.row.cell H3.out.k0
        have x1 := H3.out.row.cell H3.out.k1
        have x2 := H3.out.row.cell H3.out.k2
        have cu := cu w3 H3.out.own.at_
        go_wp2_with fail
        refine cu.mono ?_
        rintro e w4 ⟨rfl, hb4⟩
        have H4 := hide (H3.out.call hb4)
        have K4 := hide (K3.out.trans (MKp.of_below hb4 g base))
        clear hb4 cu x0 x1 x2
        go_wp2_with fail
        go_ret2
        exact ⟨rfl, H4.out, K4.out⟩
      | true =>
        obtain ⟨hE, hB, hR⟩ := move_yes hf hf2 hu
        rw [hu] at cu
        rw [hE, hB, hR]
        clear hf hf2 hE hB hR cf hu
        go_enter Try.func56, Try.ntmps56
        go_wp2_with fail
        refine cf1.mono ?_
        rintro e w2 ⟨rfl, hb2⟩
        have H2 := hide (h.out.call hb2)
        have K2 := hide (MKp.of_below hb2 g base)
        clear hb2 cf1 x0 x1 x2
        have x0 := H2.out.row.cell H2.out.k0
        have x1 := H2.out.row.cell H2.out.k1
        have x2 := H2.out.row.cell H2.out.k2
        go_wp2_with fail
        refine (cf2 w2).mono ?_
        rintro e w3 ⟨rfl, hb3⟩
        have H3 := hide (H2.out.call hb3)
        have K3 := hide (K2.out.trans (MKp.of_below hb3 g base))
        clear hb3 cf2 x0 x1 x2
        have x0 := H3.out.row.cell H3.out.k0
        have x1 := H3.out.row.cell H3.out.k1
        have x2 := H3.out.row.cell H3.out.k2
        have cu := cu w3 H3.out.own.at_
        go_wp2_with fail
        refine cu.mono ?_
        rintro e w4 ⟨rfl, hb4⟩
        have H4 := hide (H3.out.call hb4)
        have K4 := hide (K3.out.trans (MKp.of_below hb4 g base))
        clear hb4 cu x0 x1 x2
        obtain ⟨g1, q1, hv1, hg1, hgl1, hn1, hM1⟩ := own_block H4.out.own.o1 (show 0 < S.bs.length by omega)
        injection hv1 with hv1 _ hv3
        subst hv1 hv3
        have hcut : Sees w4 w4.heap.size (some ⟨g1, S.sp + a, none⟩) (cellsU8 (cutS S (S.sp + a) m)) := by
          have := (H4.out.own.at_).cut (S.sp + a) m
          rwa [map_add0] at this
        have hcl := hide (show (cutS S (S.sp + a) m).length = m from cut_len hfit)
        have x0 := fun p : After w4 => after_cell (H4.out.row.cell H4.out.k0) p
        have x2 := fun p : After w4 => after_cell (H4.out.row.cell H4.out.k2) p
        have cw := fun (p : After w4) => mwrite_any (S.sp + d) m (some ⟨g1, S.sp + a, none⟩) (c1 - (S.sp + a)) (cutS S (S.sp + a) m) p.w (hide (H4.out.call p.b)) (hide ((hcut.below p.b).more p.b.size)) hcl (hide (cut_byt hok.out _ _)) hm0 hm16 hfitd
        rw [show ((S.sp + d : Nat) : Int) = (S.sp : Int) + (d : Int) by omega] at cw
        have CW := hide cw
        have hz1 : (0 : Int) ≤ (S.sp : Int) + (a : Int) := by omega
        have hz2 : (S.sp : Int) + (a : Int) ≤ (S.sp : Int) + (a : Int) + (m : Int) := by omega
        have hz3 : (S.sp : Int) + (a : Int) + (m : Int) ≤ (c1 : Int) := by omega
        have hz4 : ¬ (c1 = S.sp + a) := by omega
        clear hcut cw
        go_upto_region 6 with (fail)
        refine wp_region_last 18 (by kernel_rfl) rfl rfl (by kernel_rfl) (by kernel_rfl) (by kernel_rfl) (C := fun w' => ∃ p : After w4, w' = p.w) ⟨⟨w4.drew, (Below.refl _ _).drew⟩, rfl⟩ ?_
        dsimp only [List.take_succ_cons, List.take_zero]
        repeat (go_big_quiet_step (fail))
        refine wpQuiet_nil ?_
        intro _ hw'
        obtain ⟨p1, hw''⟩ := hw'
        subst hw''
        go_wp2_with fail
        refine (CW.out p1).mono ?_
        rintro e w6 ⟨rfl, h6, k6⟩
        have H6 := hide h6
        have K6 := hide (K4.out.trans ((MKp.of_below p1.b g base).trans k6))
        clear h6 k6
        go_wp2_with fail
        go_ret2
        exact ⟨rfl, H6.out, K6.out⟩
end
end Go.Proofs.Ytipjeihfhnilcaa
end
