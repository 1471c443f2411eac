import Derived.Test.YtgcjckbndkddmaaDoorMQputi
import Derived.Test.YtgcjckbndkddmaaDoorMGd
import Derived.Test.YtgcjckbndkddmaaDoorMGi
import Derived.Deep.RegionHeld3
import Derived.Lib.SmallJoins
set_option linter.unusedVariables false
set_option linter.unusedSimpArgs false
section
/-
  The reference's describe: the bytes of a function that can be written. Conditions: those of the types.
-/
namespace Go.Proofs.YtgcjckbndkddmaaDoor
open Go.RowKit

theorem take_flat {α β : Type} {f : α → List β} {l : List α} {i : Nat} (h : i < l.length) : (l.take (i + 1)).flatMap f = (l.take i).flatMap f ++ f l[i] := by
  rw [List.take_add_one, List.getElem?_eq_getElem h, List.flatMap_append]
  simp
theorem take_flat_le {α : Type} {f : α → List Int} {l : List α} {m : Nat} (h : ∀ a ∈ l, (f a).length ≤ m) (i : Nat) : ((l.take i).flatMap f).length ≤ l.length * m := by
  have h1 := flat_le (l.take i) (fun a ha => h a (List.mem_of_mem_take ha))
  have h2 : (l.take i).length ≤ l.length := by simp; omega
  have h3 := Nat.mul_le_mul_right m h2
  omega
/-- A row of bytes of the call's own, behind W. -/
def RowI (W : World) (v : Value) (ys : List Int) (wr : World) : Prop := Below W.heap.size W wr ∧ ∃ n, wr.ownsRow W.heap.size 5 1 v n (cellsU8 ys)
theorem RowI.len {W wr : World} {v : Value} {ys : List Int} {n : Nat} (h : wr.ownsRow W.heap.size 5 1 v n (cellsU8 ys)) : ys.length = n := by have := own_len h; simpa [cellsU8] using this
theorem expo_cell {s : Int × Int} (h : SlW s) : ∃ k : Nat, k ≤ 24 ∧ s.2 = (2 : Int) ^ k ∧ expo s.2 = k := by
  obtain ⟨_, k, hk, e⟩ := h
  exact ⟨k, hk, e, by rw [e, expo_pow]⟩

set_option maxRecDepth 100000 in
set_option maxHeartbeats 2400000 in
theorem rdesc_any (w : World) (lo : Nat) (P : Int) (A1 : Option Addr) (n1 c1 : Nat) (A2 : Option Addr) (n2 c2 : Nat) (f : Fn) (HF : Hid (HdAt w lo w.heap.size ⟨P, A1, n1, c1, A2, n2, c2⟩ f)) (FW : Hid (FnW f)) :
    Calls Tryd.prog 35 #[fv P A1 n1 c1 A2 n2 c2] w fun e w' => ∃ r, e = .returned r ∧ w'.ownsRow w.heap.size 5 1 r (fnY f).length (cellsU8 (fnY f)) ∧ Below w.heap.size w w' := by
  obtain ⟨i0, hi, hz0, hz1, hz2⟩ := info_parts Tryd.info5
  have hl1 : f.slots.length = n1 := HF.out.l1
  have hl2 : f.code.length = n2 := HF.out.l2
  have hP : P = f.params := HF.out.p
  have hP0 : 0 ≤ P ∧ P ≤ 2147483647 := by rw [hP]; exact FW.out.p
  have hn1 : n1 ≤ 512 := by rw [← hl1]; exact FW.out.s
  have hn2 : n2 ≤ 1024 := by rw [← hl2]; exact FW.out.c
  have HL1 := hide hl1
  have HL2 := hide hl2
  have HP := hide hP
  have q10 := lenv_31 (n := P.toNat) (by omega)
  have q11 := lenv_31 (n := n1) (by omega)
  have q12 := lenv_31 (n := n2) (by omega)
  have B1 := hide (take_flat_le (f := slY) (l := f.slots) (m := 20) (fun s h => slY_len (FW.out.sl s h)))
  have B2 := hide (take_flat_le (f := insY) (l := f.code) (m := 41) (fun x h => insY_len (FW.out.cd x h)))
  obtain ⟨W, hW⟩ : ∃ W, w.alloc (.cells #[.int .i64 P, .slice A1 n1 c1, .slice A2 n2 c2] 53) = W := ⟨_, rfl⟩
  have HW := hide hW
  have rf := hide (show Row W w.heap.size 53 [.int .i64 P, .slice A1 n1 c1, .slice A2 n2 c2] by rw [← hW]; exact Row.new w _ _)
  have hbW := hide (show Below w.heap.size w W by rw [← hW]; exact below1 w _)
  have HFW := hide (show HdAt W lo W.heap.size ⟨P, A1, n1, c1, A2, n2, c2⟩ f by rw [← hW]; exact (HF.out.keep (fun p _ hp => World.cell?_alloc_lt w _ p hp)).more (by simp) (Nat.le_refl _))
  have g0 := rf.out.cell (k := 0) rfl
  have g1 := rf.out.cell (k := 1) rfl
  have hwP := wrap_u64_in P hP0.1 (by omega)
  have hw1 := wrap_u64_in (n1 : Int) (by omega) (by omega)
  have hw2 := wrap_u64_in (n2 : Int) (by omega) (by omega)
  clear hW hl1 hl2 hP
  go_enter Tryd.func35, Tryd.ntmps35
  go_upto_region 1 with (fail)
  rw [HW.out]
  clear HW
  go_wp2_with fail
  refine (refput_any none 0 0 [] P 0 W (hide (fun _ => rfl)) (hide rfl) (by omega) (Sees.nil_ _ _ _) hP0.1 (by omega)).mono ?_
  rintro e wa ⟨r1, rfl, ho1, hb1⟩
  rw [Nat.zero_add, List.nil_append] at ho1
  obtain ⟨Aa, ca, rfl, haa, -, -, -⟩ := own_seen ho1
  have O1 := hide ho1
  have Ha := hide haa
  have Ba := hide hb1
  have g1a := (rf.out.call hb1).cell (k := 1) rfl
  clear ho1 hb1 haa g0 g1
  go_wp2_with fail
  refine (refput_any Aa (lenv P.toNat) ca (digsI P.toNat) (n1 : Int) wa.heap.size wa Ha (hide (RowI.len O1.out)) (by omega) (Sees.own O1.out) (by omega) (by omega)).mono ?_
  rintro e wb ⟨r2, rfl, ho2, hb2⟩
  have R2 := hide (show RowI W r2 (digsI P.toNat ++ digsI n1) wb from ⟨Ba.out.trans (hb2.mono Ba.out.size), lenv P.toNat + lenv (n1 : Int).toNat, by
    have h := own_less ho2 Ba.out.size
    rw [show (n1 : Int).toNat = n1 from Int.toNat_natCast n1] at h
    rw [show (n1 : Int).toNat = n1 from Int.toNat_natCast n1]
    exact h⟩)
  clear ho2 hb2 O1 Ha Ba g1a
  go_wp2_with fail
  go_loopw [3, 4] (fun bv kv wr => ∃ i : Nat, i ≤ n1 ∧ kv = .int .i64 (i : Int) ∧ Hid (RowI W bv (digsI P.toNat ++ digsI n1 ++ (f.slots.take i).flatMap slY) wr)) (fun _ kv _ => n1 - (intOf kv).toNat)
  case atStart => exact ⟨0, Nat.zero_le _, rfl, by simpa using R2⟩
  case round =>
    obtain ⟨i, hin, rfl, hR⟩ := hrel
    obtain ⟨hB, nb, ho⟩ := hR.out
    have HB := hide hB
    obtain ⟨Ab, cb, rfl, hab, -, -, hsb⟩ := own_seen ho
    have HO := hide ho
    have HAB := hide hab
    have HSB := hide hsb
    have hnb := RowI.len ho
    have u1 := (rf.out.call hB).cell (k := 1) rfl
    have u2 := (rf.out.call hB).cell (k := 2) rfl
    have hbl := B1.out i
    have hnb2 : nb ≤ 20 + n1 * 20 := by rw [← hnb]; simp only [List.length_append, digsI_length]; rw [HL1.out] at hbl; omega
    clear hB ho hab hsb R2
    by_cases hlt : i < n1
    · have hlz : (i : Int) < (n1 : Int) := by omega
      have hil : i < f.slots.length := by rw [HL1.out]; exact hlt
      obtain ⟨b1, off1, hA, hbb, s0, s1⟩ := pair_at (HFW.out.below HB.out).s1 hil
      simp only at hA
      subst hA
      have hsw := FW.out.sl _ (List.getElem_mem hil)
      obtain ⟨k, hk, hk2, hk3⟩ := expo_cell hsw
      have hsz := hsw.1
      have HT := hide (show (f.slots.take (i + 1)).flatMap slY = (f.slots.take i).flatMap slY ++ (digsI (f.slots[i].1).toNat ++ digsI k) by rw [take_flat hil]; unfold slY; rw [hk3])
      rw [hk2] at s1
      obtain ⟨sz, hsz'⟩ : ∃ s, f.slots[i].1 = s := ⟨_, rfl⟩
      rw [hsz'] at s0 hsz HT
      have q13 := lenv_31 (n := sz.toNat) (by omega)
      have hws := wrap_u64_in sz hsz.1 (by omega)
      obtain ⟨ys, hys⟩ : ∃ ys, digsI P.toNat ++ digsI n1 ++ (f.slots.take i).flatMap slY = ys := ⟨_, rfl⟩
      rw [hys] at HO HSB hnb
      obtain ⟨m3, hm3'⟩ : ∃ m, nb + lenv sz.toNat = m := ⟨_, rfl⟩
      obtain ⟨y3, hy3'⟩ : ∃ y, ys ++ digsI sz.toNat = y := ⟨_, rfl⟩
      have hm3b : m3 ≤ 20 + n1 * 20 + 10 := by omega
      have hm3 := hide hm3'
      have hy3 := hide hy3'
      have Hys := hide hys
      clear hsw hk2 hk3 hsz' u2 hm3' hy3' hys q13 hbl q10 q11 q12
      go_wp2_with fail
      go_region_held3 (fun w' => w'.cell? ⟨w.heap.size, 1, none⟩ = some (.slice (some ⟨b1, off1, none⟩) n1 c1) ∧ w'.cell? ⟨b1, off1 + i * 2, none⟩ = some (.int .i64 sz) ∧ w'.cell? ⟨b1, off1 + i * 2 + 1, none⟩ = some (.int .i64 ((2 : Int) ^ k)))
        (first | go_keep | (refine ⟨keep_cellB hb1 ?_, keep_cellB hb1 ?_, keep_cellB hb1 ?_⟩ <;> go_keep) | (refine ⟨keep_cellB hb2 ?_, keep_cellB hb2 ?_, keep_cellB hb2 ?_⟩ <;> go_keep))
        (first
          | (go_at_call 54; refine (rexpo_any k _ hk).mono ?_; rintro e w' ⟨rfl, rfl⟩)
          | (go_at_call 34; refine (refput_any A3 m3 c3 y3 (k : Int) _ _ (hide ha3) (hide (RowI.len ho3)) (by omega) hs3 (by omega) (by omega)).mono ?_; rintro e w3 ⟨r4, rfl, ho4, hb2⟩)
          | (go_at_call 34; refine (refput_any Ab nb cb ys sz wr.heap.size _ HAB (hide hnb) (by omega) (HSB.out.draws 1) hsz.1 (by omega)).mono ?_; rintro e w2 ⟨r3, rfl, ho3, hb1⟩; rw [hm3.out, hy3.out] at ho3; obtain ⟨A3, c3, rfl, ha3, -, -, hs3⟩ := own_seen ho3))
      have HN := hide (show RowI W r4 (digsI P.toNat ++ digsI n1 ++ (f.slots.take (i + 1)).flatMap slY) w3 from by
        have h1 := (below_draws HB.out 1).trans (hb1.mono (below_draws HB.out 1).size)
        refine ⟨h1.trans (hb2.mono h1.size), m3 + lenv (k : Int).toNat, ?_⟩
        have h2 := own_less ho4 h1.size
        rw [HT.out, ← List.append_assoc, Hys.out, ← List.append_assoc, hy3.out]
        rw [show (k : Int).toNat = k from Int.toNat_natCast k] at h2 ⊢
        exact h2)
      clear ho4 hb1 hb2 hs3 ha3 ho3
      go_wp2_with fail
      go_roundw
      case rel => exact ⟨i + 1, by omega, by go_num, HN⟩
      case measure => simp [intOf]; omega
    · have hi2 : n1 = i := by omega
      subst hi2
      have hlt' : ¬ ((n1 : Int) < (n1 : Int)) := by omega
      obtain ⟨ys, hys⟩ : ∃ ys, digsI P.toNat ++ digsI n1 ++ (f.slots.take n1).flatMap slY = ys := ⟨_, rfl⟩
      rw [hys] at HO HSB hnb
      rw [List.take_of_length_le (by rw [HL1.out]; exact Nat.le_refl _)] at hys
      have Hys := hide hys
      clear hys hbl hlt
      go_wp2_with fail
      refine (refput_any Ab nb cb ys (n2 : Int) wr.heap.size wr HAB (hide hnb) (by omega) HSB.out (by omega) (by omega)).mono ?_
      rintro e wd ⟨r5, rfl, ho5, hb5⟩
      obtain ⟨y5, hy5⟩ : ∃ y, ys ++ digsI n2 = y := ⟨_, rfl⟩
      have R5 := hide (show RowI W r5 y5 wd from by
        refine ⟨HB.out.trans (hb5.mono HB.out.size), nb + lenv (n2 : Int).toNat, ?_⟩
        have h2 := own_less ho5 HB.out.size
        rw [show (n2 : Int).toNat = n2 from Int.toNat_natCast n2] at h2 ⊢
        rw [hy5] at h2
        exact h2)
      have hy5l : y5.length ≤ 30 + n1 * 20 + 20 := by rw [← hy5, List.length_append, hnb, digsI_length]; omega
      have HY5 := hide hy5
      clear ho5 hb5 HO HAB HSB hnb hy5
      go_wp2_with fail
      go_loopw [3, 5, 6, 7, 8, 9] (fun bv kv _ _ _ _ wr => ∃ i : Nat, i ≤ n2 ∧ kv = .int .i64 (i : Int) ∧ Hid (RowI W bv (y5 ++ (f.code.take i).flatMap insY) wr)) (fun _ kv _ _ _ _ _ => n2 - (intOf kv).toNat)
      case atStart => exact ⟨0, Nat.zero_le _, rfl, by simpa using R5⟩
      case round =>
        obtain ⟨i, hin, rfl, hR⟩ := hrel
        obtain ⟨hB, nb, ho⟩ := hR.out
        have HB := hide hB
        have HO := hide ho
        have hnb := RowI.len ho
        have u2 := (rf.out.call hB).cell (k := 2) rfl
        have hbl := B2.out i
        have hnb2 : nb ≤ 50 + n1 * 20 + n2 * 41 := by rw [← hnb]; simp only [List.length_append]; rw [HL2.out] at hbl; omega
        clear hB ho R5
        by_cases hlt : i < n2
        · have hlz : (i : Int) < (n2 : Int) := by omega
          have hil : i < f.code.length := by rw [HL2.out]; exact hlt
          obtain ⟨b2, off2, hA, hbb, x0, x1, x2, x3, x4⟩ := ins_at (HFW.out.below HB.out).s2 hil
          simp only at hA
          subst hA
          have hxw := FW.out.cd _ (List.getElem_mem hil)
          have HT := hide (take_flat (f := insY) hil)
          obtain ⟨x, hx⟩ : ∃ x, f.code[i] = x := ⟨_, rfl⟩
          rw [hx] at x0 x1 x2 x3 x4 hxw HT
          obtain ⟨ys2, hys2⟩ : ∃ y, y5 ++ (f.code.take i).flatMap insY = y := ⟨_, rfl⟩
          rw [hys2] at HO hnb
          have Hys2 := hide hys2
          have HXW := hide hxw
          have hil6 := insY_len hxw
          clear hys2 hbl hx
          go_wp2_with fail
          refine (ropd_any x.op _ hxw.o.1 hxw.o.2).mono ?_
          rintro e w' ⟨rfl, rfl⟩
          go_wp2_with fail
          refine (rputi_any none 0 0 [] x 0 wr (hide (fun _ => rfl)) (hide (Nat.le_refl _)) (hide rfl) (by omega) (hide (Sees.nil_ _ _ _)) (hide (Nat.zero_le _)) HXW).mono ?_
          rintro e w6 ⟨r6, l6, rfl, hl6, ho6, hb6⟩
          rw [List.nil_append] at ho6
          obtain ⟨A6, c6, rfl, ha6, hc6, -, hs6⟩ := own_seen ho6
          have hl6' : (insY x).length = l6 := by omega
          have HO6 := hide (own_below HO.out hb6)
          have HB6 := hide (HB.out.trans (hb6.mono HB.out.size))
          clear ho6 hb6 hl6 x0 x1 x2 x3 x4 u2 hxw
          go_wp2_with (at_builtin; refine wpList_append_seesN rfl (.tmp 69) (.tmp 79) 22 rfl W.heap.size 5 i0 (.int .u8 0) 1 1 Tryd.underlying22 hi hz0 hz1 hz2 rfl (by decide) _ nb (cellsU8 ys2) rfl HO6.out w6.heap.size A6 l6 c6 (cellsU8 (insY x)) rfl (hide ha6) (hide (by simp [cellsU8]; omega)) (hide hs6) (hide hc6) (one_u8 _) (by unfold maxLen; omega) (by omega) HB6.out.size ?_)
          intro v7 w7 ho7 hg7
          have HN := hide (show RowI W v7 (y5 ++ (f.code.take (i + 1)).flatMap insY) w7 from by
            refine ⟨below_append HB6.out HO6.out (Nat.le_refl _) hg7 HB6.out.size, nb + l6, ?_⟩
            rw [HT.out, ← List.append_assoc, Hys2.out, cellsU8_app]
            exact ho7)
          clear ho7 hg7
          go_wp2_with fail
          go_roundw
          case rel => exact ⟨i + 1, by omega, by go_num, HN⟩
          case measure => simp [intOf]; omega
        · have hi2 : n2 = i := by omega
          subst hi2
          have HE := hide (show y5 ++ (f.code.take n2).flatMap insY = fnY f by
            rw [List.take_of_length_le (by rw [HL2.out]; exact Nat.le_refl _), ← HY5.out, ← Hys.out, HP.out, ← HL1.out, ← HL2.out]
            simp [fnY])
          rw [HE.out] at HO hnb
          have HBW := hide (hbW.out.trans (HB.out.mono hbW.out.size))
          clear hbl hlt
          go_wp2
          go_ret
          exact ⟨_, rfl, by rw [hnb]; exact own_less HO.out hbW.out.size, HBW.out⟩
end Go.Proofs.YtgcjckbndkddmaaDoor
end

section
/-
  The reference's Encode of any program in memory whose Imm fields are of 64 bits. Conditions: those of the types.
-/
namespace Go.Proofs.YtgcjckbndkddmaaDoor
open Go.RowKit

theorem optY_byt (u : Bool) (n : Int) : Byt (optY u n) := by
  cases u with
  | true => exact Byt.digs _
  | false => exact Byt.nil_
theorem insY_byt {x : Ins} (h : InsW x) : Byt (insY x) := by
  have := h.o
  exact Byt.cons (by omega) (by omega) ((optY_byt _ _).app ((optY_byt _ _).app ((optY_byt _ _).app (optY_byt _ _))))
theorem fnY_byt {f : Fn} (h : FnW f) : Byt (fnY f) :=
  (Byt.digs _).app ((Byt.digs _).app ((Byt.flat fun s _ => (Byt.digs _).app (Byt.digs _)).app ((Byt.digs _).app (Byt.flat fun x hx => insY_byt (h.cd x hx)))))
theorem magic_byt : Byt magic := by intro z hz; simp [magic] at hz; omega
theorem pgY_byt {F : Pg} (h : PgW F) : Byt (pgY F) := magic_byt.app ((Byt.digs _).app (Byt.flat fun f hf => (Byt.digs _).app (fnY_byt (h.2 f hf))))
theorem lenY_len {f : Fn} (h : FnW f) : (lenY f).length ≤ 60010 := by
  have h1 := fnY_len h
  have h2 := lenv_31 (n := (fnY f).length) (by omega)
  simp only [lenY, List.length_append, digsI_length]
  omega
/-- What Encode gives. -/
def EnPost (F : Pg) (w : World) (e : Ending) (w' : World) : Prop :=
  ∃ (r : Value) (n : Nat), e = .returned (.tuple #[r, .int .i64 (encE F)]) ∧ w'.ownsRow w.heap.size 5 1 r n (cellsU8 (if encE F = 0 then encY F else [])) ∧ Below w.heap.size w w'
theorem en_nil {F : Pg} {x : Int} {w w' : World} (h : encE F = x) (hx : x ≠ 0) (hb : Below w.heap.size w w') : EnPost F w (.returned (.tuple #[.slice none 0 0, .int .i64 x])) w' :=
  ⟨_, 0, by rw [h], by rw [h, if_neg hx]; exact World.ownsRow_nil _ _ _ _, hb⟩

set_option maxRecDepth 100000 in
set_option maxHeartbeats 2400000 in
theorem rencode_any (w : World) (lo : Nat) (A : Option Addr) (n c : Nat) (hs : List Hd) (F : Pg) (H : Hid (PgAt w lo w.heap.size A n c hs F)) (him : Hid (∀ f ∈ F, ∀ x ∈ f.code, 0 ≤ x.imm ∧ x.imm ≤ 18446744073709551615)) :
    Calls Tryd.prog 13 #[gv A n c] w (EnPost F w) := by
  obtain ⟨i0, hi, hz0, hz1, hz2⟩ := info_parts Tryd.info5
  have HLEN := hide H.out.len
  obtain ⟨W, hW⟩ : ∃ W, w.alloc (.cells #[.slice A n c] 28) = W := ⟨_, rfl⟩
  have hbW := hide (show Below w.heap.size w W by rw [← hW]; exact below1 w _)
  have rp := hide (show Row W w.heap.size 28 [.slice A n c] by rw [← hW]; exact Row.new w _ _)
  have HX := hide (show PgAt W lo W.heap.size A n c hs F by rw [← hW]; exact H.out.alloc _)
  have z0 := rp.out.cell (k := 0) rfl
  have HW := hide hW
  have cc := rcheck_any W lo A n c hs F HX
  clear hW
  by_cases hce : pgE F = 0
  · rw [hce] at cc
    have PW := hide (pgW_of hce him.out)
    have hn80 : n ≤ 80 := by rw [← HLEN.out]; exact PW.out.1
    have EE := hide (show encE F = if 1048576 < (pgY F).length + 4 then 3 else 0 by unfold encE; rw [if_neg (by simp [hce]), show (encY F).length = (pgY F).length + 4 from withY_length _])
    have BF := hide (take_flat_le (f := lenY) (l := F) (m := 60010) (fun f h => lenY_len (PW.out.2 f h)))
    have q11 := lenv_31 (n := n) (by omega)
    have hwn := wrap_u64_in (n : Int) (by omega) (by omega)
    clear hce
    go_enter Tryd.func13, Tryd.ntmps13
    go_upto_region 1 with (fail)
    rw [HW.out]
    clear HW
    go_wp2_with fail
    refine cc.mono ?_
    rintro e w1 ⟨rfl, hb1⟩
    have B1 := hide hb1
    have z1 := (rp.out.call hb1).cell (k := 0) rfl
    have rp1 := hide (rp.out.call hb1)
    have kc := Joins.run_convert_bytes_const_at (P := Tryd.prog) w1 22 5 #[.int .u8 83, .int .u8 73, .int .u8 82, .int .u8 49] 4 4 w1.heap.size rfl Tryd.underlying22 Tryd.underlying5
    obtain ⟨wm, hwm⟩ : ∃ wm, w1.alloc (.cells #[.int .u8 83, .int .u8 73, .int .u8 82, .int .u8 49] 5 ((#[.int .u8 83, .int .u8 73, .int .u8 82, .int .u8 49] : Array Value).size, (#[.int .u8 83, .int .u8 73, .int .u8 82, .int .u8 49] : Array Value).size + 1)) = wm := ⟨_, rfl⟩
    rw [hwm] at kc
    have hsm := hide (show Sees wm (w1.heap.size + 1) (some ⟨w1.heap.size, 0, none⟩) (cellsU8 magic) from fun k u hu => ⟨w1.heap.size, 0, rfl, by omega, by
      rw [← hwm, Nat.zero_add, Joins.cell_alloc_mark_at _ _ _ _ _ _ rfl]
      rw [← hu]
      simp [cellsU8, magic]⟩)
    have Bm := hide (show Below W.heap.size W wm by rw [← hwm]; exact B1.out.alloc B1.out.size _)
    have zm : wm.cell? ⟨w.heap.size, 0, none⟩ = some (.slice A n c) := by rw [← hwm, World.cell?_alloc_lt w1 _ _ rp1.out.lt]; exact z1
    clear hwm hb1 cc z0
    go_wp2_with fail
    refine (refput_any (some ⟨w1.heap.size, 0, none⟩) 4 4 magic (n : Int) (w1.heap.size + 1) wm (hide (fun e => by cases e)) (hide rfl) (by omega) hsm.out (by omega) (by omega)).mono ?_
    rintro e w2 ⟨r2, rfl, ho2, hb2⟩
    obtain ⟨y2, hy2⟩ : ∃ y, magic ++ digsI n = y := ⟨_, rfl⟩
    have R2 := hide (show RowI W r2 y2 w2 from by
      refine ⟨Bm.out.trans (hb2.mono Bm.out.size), 4 + lenv (n : Int).toNat, ?_⟩
      have h2 := own_less ho2 Bm.out.size
      rw [show (n : Int).toNat = n from Int.toNat_natCast n] at h2 ⊢
      rw [hy2] at h2
      exact h2)
    have hy2l : y2.length ≤ 20 := by rw [← hy2, List.length_append, digsI_length]; simp [magic]; omega
    have HY2 := hide hy2
    clear ho2 hb2 hy2 kc zm z1
    go_wp2_with fail
    go_loopw [5, 6, 7] (fun bv kv _ wr => ∃ i : Nat, i ≤ n ∧ kv = .int .i64 (i : Int) ∧ Hid (RowI W bv (y2 ++ (F.take i).flatMap lenY) wr)) (fun _ kv _ _ => n - (intOf kv).toNat)
    case atStart => exact ⟨0, Nat.zero_le _, rfl, by simpa using R2⟩
    case round =>
      obtain ⟨i, hin, rfl, hR⟩ := hrel
      obtain ⟨hB, nb, ho⟩ := hR.out
      have HB := hide hB
      have HXr := hide (HX.out.call hB)
      have u1 := (rp.out.call hB).cell (k := 0) rfl
      have hbl := BF.out i
      have hnb := RowI.len ho
      have HO := hide ho
      have hnb2 : nb ≤ 20 + n * 60010 := by rw [← hnb]; simp only [List.length_append]; rw [HLEN.out] at hbl; omega
      clear hB ho R2
      by_cases hlt : i < n
      · have hlz : (i : Int) < (n : Int) := by omega
        obtain ⟨b, off, P, A1, n1, c1, A2, n2, c2, f, rfl, hb, hFi, -, HFd, e0, e1, e2⟩ := fn_at HXr.out hlt
        obtain ⟨hiF, hfe⟩ := List.getElem?_eq_some_iff.1 hFi
        have hfw := PW.out.2 f (List.mem_of_getElem? hFi)
        have HT := hide (show (F.take (i + 1)).flatMap lenY = (F.take i).flatMap lenY ++ (digsI (fnY f).length ++ fnY f) by rw [take_flat hiF, hfe]; rfl)
        have hfl := fnY_len hfw
        obtain ⟨m, hm⟩ : ∃ m, (fnY f).length = m := ⟨_, rfl⟩
        obtain ⟨ds, hds⟩ : ∃ d, fnY f = d := ⟨_, rfl⟩
        have cd := rdesc_any wr lo P A1 n1 c1 A2 n2 c2 f (hide HFd) (hide hfw)
        rw [hm, hds] at cd HT
        rw [hm] at hfl
        have hdl : ds.length = m := by rw [← hds]; exact hm
        obtain ⟨ys, hys⟩ : ∃ y, y2 ++ (F.take i).flatMap lenY = y := ⟨_, rfl⟩
        rw [hys] at HO hnb
        have Hys := hide hys
        have hwm' := wrap_u64_in (m : Int) (by omega) (by omega)
        have q13 := lenv_31 (n := m) (by omega)
        clear hm hds hys hFi hfe hfw HFd hb hbl
        go_wp2_with fail
        refine cd.mono ?_
        rintro e w6 ⟨r6, rfl, ho6, hb6⟩
        obtain ⟨A6, c6, rfl, ha6, hc6, -, -⟩ := own_seen ho6
        obtain ⟨Ab, cb, rfl, hab, -, -, hsb⟩ := own_seen (own_below HO.out hb6)
        have O6 := hide ho6
        have HB6 := hide (HB.out.trans (hb6.mono HB.out.size))
        clear ho6 hb6 cd u1 e0 e1 e2
        go_wp2_with fail
        refine (refput_any Ab nb cb ys (m : Int) w6.heap.size w6 (hide hab) (hide hnb) (by omega) hsb (by omega) (by omega)).mono ?_
        rintro e w7 ⟨r7, rfl, ho7, hb7⟩
        obtain ⟨y7, hy7⟩ : ∃ y, ys ++ digsI m = y := ⟨_, rfl⟩
        obtain ⟨m7, hm7⟩ : ∃ y, nb + lenv m = y := ⟨_, rfl⟩
        rw [show (m : Int).toNat = m from Int.toNat_natCast m, hy7, hm7] at ho7
        have O7 := hide (own_less ho7 HB6.out.size)
        have HB7 := hide (HB6.out.trans (hb7.mono HB6.out.size))
        have O67 := hide (own_below O6.out hb7)
        have HY7 := hide hy7
        have hm7b : m7 ≤ 20 + n * 60010 + 10 := by omega
        obtain ⟨A7, c7, rfl, -, -, -, -⟩ := own_seen O7.out
        clear ho7 hb7 hy7 hm7
        go_wp2_with (at_builtin; refine wpList_append_seesN rfl (.tmp 37) (.tmp 38) 22 rfl W.heap.size 5 i0 (.int .u8 0) 1 1 Tryd.underlying22 hi hz0 hz1 hz2 rfl (by decide) _ m7 (cellsU8 y7) rfl O7.out w7.heap.size A6 m c6 (cellsU8 ds) rfl (hide ha6) (hide (by simp [cellsU8]; omega)) (hide (Sees.own O67.out)) (hide hc6) (one_u8 _) (by unfold maxLen; omega) (by omega) HB7.out.size ?_)
        intro v8 w8 ho8 hg8
        have HN := hide (show RowI W v8 (y2 ++ (F.take (i + 1)).flatMap lenY) w8 from by
          refine ⟨below_append HB7.out O7.out (Nat.le_refl _) hg8 HB7.out.size, m7 + m, ?_⟩
          rw [HT.out, ← List.append_assoc, Hys.out, ← List.append_assoc, HY7.out, cellsU8_app]
          exact ho8)
        clear ho8 hg8
        go_wp2_with fail
        go_roundw
        case rel => exact ⟨i + 1, by omega, by go_num, HN⟩
        case measure => simp [intOf]; omega
      · have hi2 : n = i := by omega
        subst hi2
        have HE := hide (show y2 ++ (F.take n).flatMap lenY = pgY F by
          rw [List.take_of_length_le (by rw [HLEN.out]; exact Nat.le_refl _), ← HY2.out, ← HLEN.out]
          simp [pgY])
        rw [HE.out] at HO hnb
        have HBW := hide (hbW.out.trans (HB.out.mono hbW.out.size))
        clear hbl hlt
        by_cases h20 : 1048576 < nb + 4
        · have E3 := hide (show encE F = 3 by rw [EE.out, if_pos (by rw [hnb]; exact h20)])
          obtain ⟨Ab, cb, rfl, -, -, -, -⟩ := own_seen HO.out
          have h20z : (1048576 : Int) < (nb : Int) + 4 := by omega
          go_wp2
          go_ret2
          exact en_nil E3.out (by decide) HBW.out
        · have E3 := hide (show encE F = 0 by rw [EE.out, if_neg (by rw [hnb]; exact h20)])
          have cp := rputcrc_any _ nb (pgY F) W.heap.size wr HO (hide HB.out.size) (by omega) (hide (pgY_byt PW.out))
          obtain ⟨Ab, cb, rfl, -, -, -, -⟩ := own_seen HO.out
          have h20z : ¬ ((1048576 : Int) < (nb : Int) + 4) := by omega
          have h20d : decide ((1048576 : Int) < (nb : Int) + 4) = false := decide_eq_false h20z
          clear h20
          go_wp2_with fail
          refine cp.mono ?_
          rintro e w9 ⟨r9, rfl, ho9, hg9⟩
          have HB9 := hide (hbW.out.trans ((below_append HB.out HO.out (Nat.le_refl _) hg9 HB.out.size).mono hbW.out.size))
          have FIN := hide (show EnPost F w (.returned (.tuple #[r9, .int .i64 0])) w9 from ⟨r9, nb + 4, by rw [E3.out], by rw [E3.out, if_pos rfl]; exact own_less ho9 hbW.out.size, HB9.out⟩)
          clear ho9 hg9 cp
          go_wp2
          go_ret2
          exact FIN.out
  · have hcb : (pgE F == 0) = false := by rw [beq_eq_false_iff_ne]; exact hce
    have E := hide (show encE F = pgE F by unfold encE; rw [if_pos hce])
    obtain ⟨x, hx⟩ : ∃ x, pgE F = x := ⟨_, rfl⟩
    have hxn := hide hce
    rw [hx] at cc hcb E hxn
    clear hx hce
    go_enter Tryd.func13, Tryd.ntmps13
    go_upto_region 1 with (fail)
    rw [HW.out]
    clear HW
    go_wp2_with fail
    refine cc.mono ?_
    rintro e w1 ⟨rfl, hb1⟩
    have HB := hide (hbW.out.trans (hb1.mono hbW.out.size))
    clear hb1 cc z0
    go_wp2
    go_ret2
    exact en_nil E.out hxn.out HB.out
end Go.Proofs.YtgcjckbndkddmaaDoor
end
