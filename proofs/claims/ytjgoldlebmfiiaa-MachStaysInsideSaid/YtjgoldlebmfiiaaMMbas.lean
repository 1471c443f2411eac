import Derived.Test.YtjgoldlebmfiiaaMKi
import Derived.Test.YtjgoldlebmfiiaaMKd
import Derived.Test.YtjgoldlebmfiiaaMKb
import Derived.Test.YtjgoldlebmfiiaaMKg
import Derived.Test.YtjgoldlebmfiiaaMKe
import Derived.Laws.OwnMore
import Derived.Maps.AppendAt
import Derived.Maps.Range
set_option linter.unusedVariables false
set_option linter.unusedSimpArgs false
section
/-
  The contract of the reference's Baseline (chapter 24): the plain layout of a function. Conditions: what holds of a right program of at most 6 slots a function; the alignment is one.
-/
namespace Go.Proofs.Ytjgoldlebmfiiaa
open Go.RowKit

def BasPost (a : Int) (sl : List (Int × Int)) (al : Int) (w : World) (e : Ending) (w' : World) : Prop :=
  ∃ (A : Option Addr) (c : Nat), e = .returned (.tuple #[mv a (upM (basF a sl).2 al) A sl.length c, .int .i64 0]) ∧ w'.ownsRow w.heap.size 3 1 (.slice A sl.length c) sl.length (cellsE (basF a sl).1) ∧ Below w.heap.size w w'
theorem cellsE_one (zs : List Int) : ∀ u ∈ cellsE zs, u.oneCell' = true := by
  intro u hu
  simp only [cellsE, List.mem_map] at hu
  obtain ⟨z, _, rfl⟩ := hu
  rfl
theorem cellsE_snoc (zs : List Int) (z : Int) : cellsE (zs ++ [z]) = cellsE zs ++ [.int .i64 z] := by simp [cellsE]
theorem own_lower {w : World} {b b' : Nat} {t : TypeId} {size : Nat} {v : Value} {n : Nat} {xs : List Value} (h : w.ownsRow b t size v n xs) (hb : b' ≤ b) : w.ownsRow b' t size v n xs := by
  refine ⟨h.1, ?_⟩
  rcases h.2 with h2 | ⟨g, cap, cur, h1, h3, h4⟩
  · exact .inl h2
  · exact .inr ⟨g, cap, cur, h1, by omega, h4⟩
set_option maxRecDepth 100000 in
set_option maxHeartbeats 4000000 in
theorem rbase_any (A : Option Addr) (n c : Nat) (hs : List Hd) (F : Pg) (lo B i : Nat) (f : Fn) (al : Int) (w : World) (H : Hid (PgAt w lo B A n c hs F)) (hB : B ≤ w.heap.size) (hf : Hid (F[i]? = some f)) (hok : Hid (ArgOk F f.code)) (hsl : Hid (∀ u ∈ f.slots, slotB u.1 u.2 = true)) (h6 : f.slots.length ≤ 6) (hal : Hid (powB al = true)) :
    Calls Try.prog 39 #[gv A n c, .int .i64 (i : Int), .int .i64 al] w (BasPost (argN F f.code * 16) f.slots al w) := by
  obtain ⟨i0, hi, hz0, hz1, hz2⟩ := info_parts Try.info3
  have hin : i < n := by rw [← H.out.len]; exact (List.getElem?_eq_some_iff.1 hf.out).1
  obtain ⟨b, off, P, A1, n1, c1, A2, n2, c2, f', rfl, hb, e1, -, h, p0, p1, p2⟩ := fn_at H.out hin
  obtain rfl : f' = f := by rw [hf.out] at e1; injection e1 with e1; exact e1.symm
  clear e1
  have hn := H.out.cap.2.2
  have HL := hide (show f'.slots.length = n1 from h.l1)
  have HSL := hide h.s1
  have hab := argN_b hok.out f'.code.length
  rw [List.take_of_length_le (Nat.le_refl _)] at hab
  have ca := fun W (hb : Below w.heap.size w W) => rargs_any (some ⟨b, off, none⟩) n c hs F lo B i f' W (hide (H.out.below (hb.mono hB))) (Nat.le_trans hB hb.size) hf hok
  obtain ⟨a, ha⟩ : ∃ a, argN F f'.code * 16 = a := ⟨_, rfl⟩
  simp only [ha] at ca
  rw [ha]
  have ha0 : 0 ≤ a ∧ a ≤ 128 := by omega
  have CA := hide ca
  have hbw : b < w.heap.size := by omega
  obtain ⟨W2, hW2, hb2, hs2, r0, r1⟩ := boxes2q w [.slice (some ⟨b, off, none⟩) n c] [.int .i64 0, .int .i64 0, .slice none 0 0] 57 79
  have HW2 := hide hW2
  have HB2 := hide hb2
  have HS2 := hide hs2
  have R0 := hide r0
  have R1 := hide r1
  have t0 := r0.cell (k := 0) rfl
  have hiz : (0 : Int) ≤ (i : Int) := by omega
  have hiz' : (i : Int) < (n : Int) := by omega
  have ALB := hide (powB_b hal.out)
  clear hW2 hb2 hs2 r0 r1 h ca hab ha
  go_enter Try.func39, Try.ntmps39
  go_upto_region 1 with (fail)
  rw [HW2.out]
  clear HW2
  go_upto_region 2 with (go_at_call 53; refine (CA.out _ HB2.out).mono ?_; rintro e W3 ⟨rfl, hb3⟩)
  obtain ⟨W4, hW4⟩ : ∃ V, W3.alloc (.cells #[.int .i64 a, .int .i64 0, .slice none 0 0] 79) = V := ⟨_, rfl⟩
  have RP4 := hide (show Row W4 w.heap.size 57 [.slice (some ⟨b, off, none⟩) n c] by rw [← hW4]; exact (R0.out.call hb3).alloc _)
  have RR4 := hide (show Row W4 (w.heap.size + 1) 79 [.int .i64 0, .int .i64 0, .slice none 0 0] by rw [← hW4]; exact (R1.out.call hb3).alloc _)
  have RL4 := hide (show Row W4 W3.heap.size 79 [.int .i64 a, .int .i64 0, .slice none 0 0] by rw [← hW4]; exact Row.new W3 _ _)
  have HB4 := hide (show Below w.heap.size w W4 by rw [← hW4]; have h := below_call HB2.out hb3; exact h.alloc h.size _)
  have HS4 := hide (show w.heap.size + 1 < W3.heap.size by have := HS2.out; have := hb3.size; omega)
  rw [hW4]
  obtain ⟨g, hg⟩ : ∃ g, W3.heap.size = g := ⟨_, rfl⟩
  rw [hg] at RL4 HS4 ⊢
  clear hW4 hg hb3 t0 R0 R1 HB2 HS2 CA
  have l0 := RL4.out.cell (k := 0) rfl
  have t0 := RP4.out.cell (k := 0) rfl
  have q1 := (HB4.out.cell (p := ⟨b, off + i * 3 + 1, none⟩) hbw).trans p1
  clear p0 p1 p2
  go_wp2_with fail
  clear l0 t0 q1
  go_loopw [9, 11] (fun m s wr => ∃ (k : Nat) (x : Int) (A' : Option Addr) (c' : Nat), k ≤ n1 ∧ s = .int .i64 k ∧ m = .int .i64 x ∧ Hid (x = (basF a (f'.slots.take k)).2) ∧ Hid (wr.ownsRow W4.heap.size 3 1 (.slice A' k c') k (cellsE (basF a (f'.slots.take k)).1)) ∧ Hid (Row wr g 79 [.int .i64 a, .int .i64 0, .slice A' k c']) ∧ Hid (Row wr (w.heap.size + 1) 79 [.int .i64 0, .int .i64 0, .slice none 0 0]) ∧ Hid (Below w.heap.size w wr) ∧ Hid (W4.heap.size ≤ wr.heap.size)) (fun _ s _ => n1 - (intOf s).toNat)
  case atStart => exact ⟨0, a, none, 0, by omega, rfl, rfl, hide rfl, hide (World.ownsRow_nil _ _ _ _), RL4, RR4, HB4, hide (Nat.le_refl _)⟩
  case round =>
    obtain ⟨k, x, A', c', hk, rfl, rfl, hx, hown, hrl, hrr, hbr, hsz⟩ := hrel
    have hx1 := basF_b ha0 hsl.out k (by have := HL.out; omega)
    rw [← hx.out] at hx1
    have hx2 : x ≤ 128 + 6 * 16777232 := by have := HL.out; omega
    have hx0 : 0 ≤ x := by omega
    clear hx1
    by_cases hlt : k < n1
    · have hkl : k < f'.slots.length := by have := HL.out; omega
      have HN := hide (basF_snoc a f'.slots k hkl)
      have hsb := hsl.out _ (List.getElem_mem hkl)
      obtain ⟨bb, oo, rfl, hbb, y0, y1⟩ := pair_at (HSL.out.below (hbr.out.mono hB)) hkl
      obtain ⟨z, hz⟩ : ∃ z, f'.slots[k] = z := ⟨_, rfl⟩
      rw [hz] at HN hsb y0 y1
      obtain ⟨s, al2⟩ := z
      simp only at y0 y1 hsb
      unfold slotB at hsb
      simp only [Bool.and_eq_true] at hsb
      obtain ⟨s0, s1⟩ := szB_b hsb.1
      have hp2 := powB_b hsb.2
      have hu := upM_b x (show 0 < al2 by omega)
      have cu := rup_any x al2
      have hup := up_ok (n := x) (a := al2) (bndB_iff.2 ⟨by omega, by omega⟩) hsb.2 (by omega)
      rw [hup.1, hup.2] at cu
      have HN2 := hide (show basF a (f'.slots.take (k + 1)) = ((basF a (f'.slots.take k)).1 ++ [upM x al2], upM x al2 + s) by rw [HN.out]; unfold basI; rw [← hx.out])
      obtain ⟨at_, hat⟩ : ∃ v, upM x al2 = v := ⟨_, rfl⟩
      rw [hat] at cu HN2 hu
      have hkz : (0 : Int) ≤ (k : Int) := by omega
      have hkz' : (k : Int) < (n1 : Int) := by omega
      have hng : ¬ (2147483519 - s < at_) := by omega
      have hng' : decide (2147483519 - s < at_) = false := decide_eq_false hng
      have l2 := hrl.out.cell (k := 2) rfl
      obtain ⟨A8, c8, e8, hA8, hc8, -, hs8⟩ := own_seen hown.out
      injection e8 with e8a _ e8c
      subst e8a e8c
      have HA8 := hide hA8
      have HC8 := hide hc8
      have HS8 := hide hs8
      have HLN := hide (show (cellsE (basF a (f'.slots.take k)).1).length = k * 1 by rw [cellsE_length, basF_len a f'.slots k (by omega)]; omega)
      clear hz hsb hup hat hp2 hA8 hc8 hs8
      go_upto_region 10 with (go_at_call 54; refine (cu _).mono ?_; rintro e w' ⟨rfl, rfl⟩)
      have y0' := y0
      have hbs := hide (show B ≤ wr.heap.size from Nat.le_trans hB hbr.out.size)
      go_wp2_with (at_builtin; refine wpList_append_seesN rfl (.const (.slice none 0 0)) (.tmp 59) 72 rfl wr.heap.size 3 i0 (.int .i64 0) 1 8 Try.underlying72 hi hz0 hz1 hz2 rfl (by decide) (.slice none 0 0) 0 [] rfl (World.ownsRow_nil _ _ _ _) wr.heap.size A' k c' (cellsE (basF a (f'.slots.take k)).1) rfl HA8 HLN HS8 HC8 (cellsE_one _) (by unfold maxLen; omega) (by omega) (Nat.le_refl _) ?_)
      intro v1 w6 ho0 hG1
      have ho1 : w6.ownsRow wr.heap.size 3 1 v1 k (cellsE (basF a (f'.slots.take k)).1) := by simpa using ho0
      clear ho0
      have hbase7 : wr.heap.size ≤ (w6.alloc (.cells #[.int .i64 at_] 3)).heap.size := Nat.le_trans hG1.size (by simp)
      have hcel := fun (j : Nat) (u : Value) (hu : ([.int .i64 at_] : List Value)[j]? = some u) => (show (w6.alloc (.cells #[.int .i64 at_] 3)).cell? ((⟨w6.heap.size, 0, none⟩ : Addr).add j) = some u by rw [WideShapes.add_plain, Nat.zero_add]; exact (Row.new w6 3 [.int .i64 at_]).cell hu)
      have hone : ∀ u ∈ ([.int .i64 at_] : List Value), u.oneCell' = true := cellsE_one [at_]
      go_wp2_with (at_builtin; refine wpList_append_own _ rfl (.tmp 60) (.tmp 62) 72 rfl wr.heap.size 3 i0 (.int .i64 0) 1 8 Try.underlying72 hi hz0 hz1 hz2 rfl (by decide) v1 k (cellsE (basF a (f'.slots.take k)).1) rfl (ho1.alloc _) ⟨w6.heap.size, 0, none⟩ 1 1 [.int .i64 at_] rfl rfl hcel hone (by unfold maxLen; omega) (by omega) hbase7 ?_)
      intro v2 w7 ho2 hg2 _
      have HG7 : Hid (wr.grownBy w7 none) := hide ((hG1.trans (World.grownBy_alloc _ _ _)).andThen hg2 (fun k hk => .inl (ho1.lt k hk).1))
      rw [← cellsE_snoc] at ho2
      obtain ⟨A7, c7, rfl, -, -, -, -⟩ := own_seen ho2
      have RL7 := hide (hrl.out.grown HG7.out (fun e => by cases e))
      have RR7 := hide (hrr.out.grown HG7.out (fun e => by cases e))
      have B7 := hide (hbr.out.grown HG7.out hbr.out.size (fun k hk => by cases hk))
      have y07 := (World.cell?_of_block (HG7.out.block bb (by have := hbs.out; omega) (fun e => by cases e))).trans y0
      have l2f := RL7.out.free 2
      have l2c := RL7.out.cell (k := 2) rfl
      clear l2 y0 y1 y0'
      go_upto_region 12 with (fail)
      obtain ⟨W8, hW8⟩ : ∃ V, w7.setCell ⟨g, 2, none⟩ (.slice A7 (k + 1) c7) = V := ⟨_, rfl⟩
      have RL8 := hide (show Row W8 g 79 [.int .i64 a, .int .i64 0, .slice A7 (k + 1) c7] by rw [← hW8]; exact RL7.out.set_ 2 _)
      have RR8 := hide (show Row W8 (w.heap.size + 1) 79 [.int .i64 0, .int .i64 0, .slice none 0 0] by rw [← hW8]; exact RR7.out.far (p := ⟨g, 2, none⟩) (by have := HS4.out; simp; omega) _)
      have B8 := hide (show Below w.heap.size w W8 by rw [← hW8]; exact B7.out.setCell (p := ⟨g, 2, none⟩) (by have := HS4.out; simp; omega) _)
      have O8 := hide (show W8.ownsRow W4.heap.size 3 1 (.slice A7 (k + 1) c7) (k + 1) (cellsE (basF a (f'.slots.take (k + 1))).1) by
        rw [← hW8, HN2.out]
        exact own_lower (ownsRow_setCell_below ho2 (a := ⟨g, 2, none⟩) (by have := RL4.out.lt; have := hsz.out; simp; omega) _) hsz.out)
      have Z8 := hide (show W4.heap.size ≤ W8.heap.size by rw [← hW8]; have := HG7.out.size; have := hsz.out; simp [World.setCell]; omega)
      have y08 : W8.cell? ⟨bb, oo + k * 2, none⟩ = some (.int .i64 s) := by rw [← hW8]; exact (World.cell?_setCell_other _ _ _ _ (fun e => by have := HS4.out; injection e with e; omega)).trans y07
      rw [hW8]
      clear hW8 y07 l2f l2c RL7 RR7 B7 ho2 ho1 hG1 hg2 HG7
      have HX2 := hide (show at_ + s = (basF a (f'.slots.take (k + 1))).2 by rw [HN2.out])
      have e16 : IntKind.i64.wrap (at_ + s) = at_ + s := wrap_i64 _ (by omega) (by omega)
      go_wp2_with fail
      go_roundw
      case rel => exact ⟨k + 1, _, A7, c7, by omega, by go_num, rfl, HX2, O8, RL8, RR8, B8, Z8⟩
      case measure => simp [intOf]; omega
    · obtain rfl : k = n1 := by omega
      have HT := hide (show f'.slots.take k = f'.slots by rw [List.take_of_length_le (by have := HL.out; omega)])
      have HX := hide (show x = (basF a f'.slots).2 by rw [hx.out, HT.out])
      have hau := ALB.out
      have hu := upM_b x (show 0 < al by omega)
      have cu := rup_any x al
      have hup := up_ok (n := x) (a := al) (bndB_iff.2 ⟨by omega, by omega⟩) hal.out (by omega)
      rw [hup.1, hup.2] at cu
      obtain ⟨sz, hsze⟩ : ∃ v, upM x al = v := ⟨_, rfl⟩
      rw [hsze] at cu hu
      have HZ := hide (show upM (basF a f'.slots).2 al = sz by rw [← HX.out, hsze])
      have hng : ¬ (2147483519 < sz) := by omega
      have hng' : decide (2147483519 < sz) = false := decide_eq_false hng
      clear hup hsze hu hau
      have l1f := hrl.out.free 1
      have l1c := hrl.out.cell (k := 1) rfl
      go_upto_region 17 with (go_at_call 54; refine (cu _).mono ?_; rintro e w' ⟨rfl, rfl⟩)
      obtain ⟨W8, hW8⟩ : ∃ V, wr.setCell ⟨g, 1, none⟩ (.int .i64 sz) = V := ⟨_, rfl⟩
      have RL8 := hide (show Row W8 g 79 [.int .i64 a, .int .i64 sz, .slice A' k c'] by rw [← hW8]; exact hrl.out.set_ 1 _)
      have RR8 := hide (show Row W8 (w.heap.size + 1) 79 [.int .i64 0, .int .i64 0, .slice none 0 0] by rw [← hW8]; exact hrr.out.far (p := ⟨g, 1, none⟩) (by have := HS4.out; simp; omega) _)
      have B8 := hide (show Below w.heap.size w W8 by rw [← hW8]; exact hbr.out.setCell (p := ⟨g, 1, none⟩) (by have := HS4.out; simp; omega) _)
      have O8 := hide (show W8.ownsRow W4.heap.size 3 1 (.slice A' k c') k (cellsE (basF a f'.slots).1) by
        rw [← hW8, ← HT.out]
        exact ownsRow_setCell_below hown.out (a := ⟨g, 1, none⟩) (by have := RL4.out.lt; simp; omega) _)
      rw [hW8]
      clear hW8 l1f l1c
      have u0 := RL8.out.cell (k := 0) rfl
      have u1 := RL8.out.cell (k := 1) rfl
      have u2 := RL8.out.cell (k := 2) rfl
      have v0 := RR8.out.cell (k := 0) rfl
      have v1 := RR8.out.cell (k := 1) rfl
      have v2 := RR8.out.cell (k := 2) rfl
      have z0 := RR8.out.free 0
      have z1 := RR8.out.free 1
      have z2 := RR8.out.free 2
      go_wp2_with fail
      obtain ⟨W9, hW9⟩ : ∃ V, ((W8.setCell ⟨w.heap.size + 1, 0, none⟩ (.int .i64 a)).setCell ⟨w.heap.size + 1, 1, none⟩ (.int .i64 sz)).setCell ⟨w.heap.size + 1, 2, none⟩ (.slice A' k c') = V := ⟨_, rfl⟩
      have R9 : Row W9 (w.heap.size + 1) 79 [.int .i64 a, .int .i64 sz, .slice A' k c'] := by rw [← hW9]; exact ((RR8.out.set_ 0 _).set_ 1 _).set_ 2 _
      have B9 : Below w.heap.size w W9 := by rw [← hW9]; exact ((B8.out.setCell (p := ⟨w.heap.size + 1, 0, none⟩) (by simp) _).setCell (p := ⟨w.heap.size + 1, 1, none⟩) (by simp) _).setCell (p := ⟨w.heap.size + 1, 2, none⟩) (by simp) _
      have hl4 := RR4.out.lt
      have O9 : W9.ownsRow w.heap.size 3 1 (.slice A' k c') k (cellsE (basF a f'.slots).1) := by
        rw [← hW9]
        exact own_lower (ownsRow_setCell_below (ownsRow_setCell_below (ownsRow_setCell_below O8.out (a := ⟨w.heap.size + 1, 0, none⟩) (by simp; omega) _) (a := ⟨w.heap.size + 1, 1, none⟩) (by simp; omega) _) (a := ⟨w.heap.size + 1, 2, none⟩) (by simp; omega) _) (by omega)
      rw [hW9]
      have k0 := R9.cell (k := 0) rfl
      have k1 := R9.cell (k := 1) rfl
      have k2 := R9.cell (k := 2) rfl
      refine bodyPost_ret (v := .tuple #[mv a sz A' k c', .int .i64 0]) (by simp [results, Try.results39, go_sem, k0, k1, k2]) rfl ?_
      unfold BasPost
      rw [HL.out, HZ.out]
      exact ⟨A', c', rfl, O9, B9⟩
end Go.Proofs.Ytjgoldlebmfiiaa
end
