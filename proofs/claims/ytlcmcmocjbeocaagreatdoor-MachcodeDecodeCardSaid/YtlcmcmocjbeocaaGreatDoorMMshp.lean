import Derived.Test.YtlcmcmocjbeocaaGreatDoorMMlow
set_option linter.unusedVariables false
set_option linter.unusedSimpArgs false
section
/-
  The contract of the reference's Shape (chapter 25) at the plain layout: it is right. Conditions: what holds of a right program of at most 6 slots a function; the alignment is one.
-/
namespace Go.Proofs.YtlcmcmocjbeocaaGreatDoor
open Go.RowKit

set_option maxRecDepth 100000 in
set_option maxHeartbeats 4000000 in
theorem rshape25_any (A : Option Addr) (n c : Nat) (hs : List Hd) (F : Pg) (lo B i : Nat) (f : Fn) (al : Int) (y : Fd) (B2 : Nat) (w : World) (H : Hid (PgAt w lo B A n c hs F)) (hB : B ≤ w.heap.size) (hF : Hid (LowPg F)) (hf : Hid (F[i]? = some f)) (hal : Hid (powB al = true))
    (hy : Hid (y.p = argN F f.code * 16 ∧ y.s = upM (basF (argN F f.code * 16) f.slots).2 al ∧ y.n = f.slots.length)) (hsee : Hid (Sees w B2 y.a (cellsE (basF (argN F f.code * 16) f.slots).1))) (hB2 : B2 ≤ w.heap.size) :
    Calls Tryz.prog 74 #[gv A n c, .int .i64 (i : Int), .int .i64 al, mv y.p y.s y.a y.n y.c] w fun e w' => e = .returned (.int .i64 0) ∧ Below w.heap.size w w' := by
  have hm := List.mem_of_getElem? hf.out
  have hok := hide (hF.out.arg _ hm)
  have hsl := hide (hF.out.slot _ hm)
  have h6 := hF.out.six _ hm
  have hin : i < n := by rw [← H.out.len]; exact (List.getElem?_eq_some_iff.1 hf.out).1
  have cb := fun W (hb : Below w.heap.size w W) => rbase_any A n c hs F lo B i f al W (hide (H.out.below (hb.mono hB))) (Nat.le_trans hB hb.size) hf hok hsl h6 hal
  have ca := fun W (hb : Below w.heap.size w W) => rargs_any A n c hs F lo B i f W (hide (H.out.below (hb.mono hB))) (Nat.le_trans hB hb.size) hf hok
  obtain ⟨b, off, P, A1, n1, c1, A2, n2, c2, f', rfl, hb, e1, -, h, p0, p1, p2⟩ := fn_at H.out hin
  obtain rfl : f' = f := by rw [hf.out] at e1; injection e1 with e1; exact e1.symm
  clear e1 hm
  have hn := H.out.cap.2.2
  have HL := hide (show f'.slots.length = n1 from h.l1)
  have HSL := hide h.s1
  have hab := argN_b hok.out f'.code.length
  rw [List.take_of_length_le (Nat.le_refl _)] at hab
  obtain ⟨yp, ys, yA, yn, yc⟩ := y
  obtain ⟨hy1, hy2, hy3⟩ := hy.out
  simp only at hy1 hy2 hy3 hsee
  change Calls Tryz.prog 74 #[gv (some ⟨b, off, none⟩) n c, .int .i64 (i : Int), .int .i64 al, mv yp ys yA yn yc] w _
  obtain ⟨a, ha⟩ : ∃ a, argN F f'.code * 16 = a := ⟨_, rfl⟩
  rw [ha] at hy1 hy2 hsee
  simp only [ha] at ca cb
  have ha0 : 0 ≤ a ∧ a ≤ 128 := by omega
  subst hy1
  obtain ⟨sz, hsz⟩ : ∃ a, upM (basF yp f'.slots).2 al = a := ⟨_, rfl⟩
  unfold BasPost at cb
  simp only [hsz] at cb
  rw [hsz] at hy2
  subst hy2
  have hyn : yn = n1 := by rw [hy3]; exact HL.out
  subst hyn
  have hbd := basF_b ha0 hsl.out f'.slots.length (Nat.le_refl _)
  rw [List.take_of_length_le (Nat.le_refl _)] at hbd
  have hap := powB_b hal.out
  have hu := upM_b (basF yp f'.slots).2 (show 0 < al by omega)
  have hdv := mod_dvd (upM_dvd (basF yp f'.slots).2 al)
  rw [hsz] at hu hdv
  have hoff := basF_off ha0 hsl.out f'.slots.length (Nat.le_refl _)
  rw [List.take_of_length_le (Nat.le_refl _)] at hoff
  have hlen := basF_len yp f'.slots f'.slots.length (Nat.le_refl _)
  rw [List.take_of_length_le (Nat.le_refl _)] at hlen
  obtain ⟨en, hen⟩ : ∃ a, (basF yp f'.slots).2 = a := ⟨_, rfl⟩
  rw [hen] at hbd hu hoff
  obtain ⟨os, hos⟩ : ∃ a, (basF yp f'.slots).1 = a := ⟨_, rfl⟩
  rw [hos] at hsee hoff hlen
  have HOFF := hide hoff
  have HLEN := hide hlen
  have CA := hide ca
  have CB := hide cb
  have hs1 : 0 ≤ ys ∧ ys ≤ 134217728 := by omega
  have hs2 : ¬ (ys < yp) := by omega
  have hbw : b < w.heap.size := by omega
  obtain ⟨W2, hW2, hb2, hst2, r0, r1⟩ := boxes2q w [.slice (some ⟨b, off, none⟩) n c] [.int .i64 yp, .int .i64 ys, .slice yA yn yc] 26 130
  have HW2 := hide hW2
  have HB2 := hide hb2
  have R0 := hide r0
  have R1 := hide r1
  have t0 := r0.cell (k := 0) rfl
  have hiz : (0 : Int) ≤ (i : Int) := by omega
  have hiz' : (i : Int) < (n : Int) := by omega
  clear hW2 hb2 hst2 r0 r1 h ca cb hab ha hsz hen hos hbd hoff hlen hy3 hy
  go_enter Tryz.func74, Tryz.ntmps74
  go_upto_region 1 with (fail)
  rw [HW2.out]
  clear HW2
  go_upto_region 2 with (go_at_call 73; refine (CB.out _ HB2.out).mono ?_; rintro e W3 ⟨A3, c3, rfl, -, hb3⟩)
  obtain ⟨W4, hW4⟩ : ∃ V, W3.alloc (.cells #[.int .i64 yp, .int .i64 ys, .slice A3 f'.slots.length c3] 130) = V := ⟨_, rfl⟩
  have RP4 := hide (show Row W4 w.heap.size 26 [.slice (some ⟨b, off, none⟩) n c] by rw [← hW4]; exact (R0.out.call hb3).alloc _)
  have RY4 := hide (show Row W4 (w.heap.size + 1) 130 [.int .i64 yp, .int .i64 ys, .slice yA yn yc] by rw [← hW4]; exact (R1.out.call hb3).alloc _)
  have RL4 := hide (show Row W4 W3.heap.size 130 [.int .i64 yp, .int .i64 ys, .slice A3 f'.slots.length c3] by rw [← hW4]; exact Row.new W3 _ _)
  have HB4 := hide (show Below w.heap.size w W4 by rw [← hW4]; have h := below_call HB2.out hb3; exact h.alloc h.size _)
  rw [hW4]
  obtain ⟨g, hg⟩ : ∃ g, W3.heap.size = g := ⟨_, rfl⟩
  rw [hg] at RL4 ⊢
  clear hW4 hg hb3 t0 R0 R1 HB2 CB
  have t0 := RP4.out.cell (k := 0) rfl
  have q1 := (HB4.out.cell (p := ⟨b, off + i * 3 + 1, none⟩) hbw).trans p1
  clear p0 p1 p2
  go_upto_region 5 with (fail)
  have y0 := RY4.out.cell (k := 0) rfl
  have y2 := RY4.out.cell (k := 2) rfl
  have t0' := after_cell t0
  have y0' := after_cell y0
  have y2' := after_cell y2
  have cg : ∀ p : After W4, Calls Tryz.prog 107 #[gv (some ⟨b, off, none⟩) n c, .int .i64 (i : Int)] p.w fun e w' => e = .returned (.int .i64 yp) ∧ Below p.w.heap.size p.w w' := fun p => CA.out p.w (HB4.out.trans (p.b.mono HB4.out.size))
  have CG := hide cg
  have hyy : (yp != yp) = false := by simp
  have hnn : ((yn : Int) != (yn : Int)) = false := by simp
  clear cg CA
  refine wp_region_after (by kernel_rfl) (by kernel_rfl) ?_
  repeat (go_big_quiet_step ((go_at_call 107; with_reducible exact after_of (CG.out _))))
  refine wpQuiet_nil ?_
  intro _ hw'
  obtain ⟨p1, hw''⟩ := hw'
  subst hw''
  have HBP := hide (HB4.out.trans (p1.b.mono HB4.out.size))
  have RY5 := hide (RY4.out.call p1.b)
  have RL5 := hide (RL4.out.call p1.b)
  obtain ⟨W5, hW5⟩ : ∃ V, p1.w = V := ⟨_, rfl⟩
  rw [hW5] at HBP RY5 RL5 ⊢
  clear hW5 t0' y0' y2' t0 q1 y0 y2 CG RP4 RY4 RL4 HB4
  go_wp2_with fail
  go_loopw [12] (fun s wr => ∃ k : Nat, k ≤ yn ∧ s = .int .i64 k ∧ Hid (Below W5.heap.size W5 wr)) (fun s _ => yn - (intOf s).toNat)
  case atStart => exact ⟨0, by omega, rfl, hide (Below.refl _ _)⟩
  case round =>
    obtain ⟨k, hk, rfl, hbr⟩ := hrel
    have HBR := hide (HBP.out.trans (hbr.out.mono HBP.out.size))
    have y0 := (RY5.out.call hbr.out).cell (k := 0) rfl
    have y1 := (RY5.out.call hbr.out).cell (k := 1) rfl
    have y2 := (RY5.out.call hbr.out).cell (k := 2) rfl
    by_cases hlt : k < yn
    · have hkl : k < f'.slots.length := by have := HL.out; omega
      have hko : k < os.length := by have := HLEN.out; omega
      obtain ⟨hkx, o0, o1, o2⟩ := HOFF.out k os[k] (List.getElem?_eq_getElem hko)
      have hsb := hsl.out _ (List.getElem_mem hkl)
      obtain ⟨bb, oo, rfl, hbb, z0, z1⟩ := pair_at (HSL.out.below (HBR.out.mono hB)) hkl
      obtain ⟨bo, ofo, rfl, hbo, v0⟩ := err_at (hsee.out.below (HBR.out.mono hB2)) hko
      obtain ⟨u, hu⟩ : ∃ u, f'.slots[k] = u := ⟨_, rfl⟩
      obtain ⟨o, ho⟩ : ∃ u, os[k] = u := ⟨_, rfl⟩
      rw [hu] at o1 o2 hsb z0 z1
      rw [ho] at o0 o1 o2 v0
      obtain ⟨s, al2⟩ := u
      simp only at z0 z1 o1 o2 hsb
      unfold slotB at hsb
      simp only [Bool.and_eq_true] at hsb
      obtain ⟨s0, s1⟩ := szB_b hsb.1
      have hp2 := powB_b hsb.2
      have hmd := mod_dvd o1
      have hmb : (o % al2 != 0) = false := by simp [hmd]
      have hab0 : (al2 == 0) = false := by simp; omega
      have hle : ¬ (o < yp) := by omega
      have hled : decide (o < yp) = false := decide_eq_false hle
      have hins : insB o s ys = true := by
        have hr : rightB o s = true := rightB_iff.2 ⟨by omega, by omega, by omega⟩
        unfold insB
        rw [hr]
        simpa using (show o + s ≤ ys by omega)
      have ci : ∀ p : After wr, Calls Tryz.prog 109 #[pv o s, .int .i64 ys] p.w fun e w' => e = .returned (.bool true) ∧ Below p.w.heap.size p.w w' := fun p => by
        have := rinside_any o s ys p.w; rwa [hins] at this
      have CI := hide ci
      have y0' := after_cell y0
      have y1' := after_cell y1
      have y2' := after_cell y2
      have z0' := after_cell z0
      have z1' := after_cell z1
      have v0' := after_cell v0
      have hkz : (0 : Int) ≤ (k : Int) := by omega
      have hkz' : (k : Int) < (yn : Int) := by omega
      clear ci hu ho hins hsb hkx o1
      go_upto_region 10 with (fail)
      refine wp_region_after (by kernel_rfl) (by kernel_rfl) ?_
      repeat (go_big_quiet_step ((go_at_call 109; with_reducible exact after_of (CI.out _))))
      refine wpQuiet_nil ?_
      intro _ hw'
      obtain ⟨p1, hw''⟩ := hw'
      subst hw''
      have HB2' := hide (below_call hbr.out p1.b)
      clear y0' y1' y2' z0' z1' v0' y0 y1 y2 z0 z1 v0
      go_wp2_with fail
      go_roundw
      case rel => exact ⟨k + 1, by omega, by go_num, HB2'⟩
      case measure => simp [intOf]; omega
    · obtain rfl : k = yn := by omega
      have l1 := (RL5.out.call hbr.out).cell (k := 1) rfl
      have hmb : (ys % al != 0) = false := by simp [hdv]
      have hab0 : (al == 0) = false := by simp; omega
      go_wp2_with fail
      go_ret
      exact ⟨rfl, HBR.out⟩
end Go.Proofs.YtlcmcmocjbeocaaGreatDoor
end
