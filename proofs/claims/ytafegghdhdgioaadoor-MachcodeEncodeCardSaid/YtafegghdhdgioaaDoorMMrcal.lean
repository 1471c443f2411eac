import Derived.Test.YtafegghdhdgioaaDoorMPeqm
set_option linter.unusedVariables false
set_option linter.unusedSimpArgs false
section
/-
  The reference's calls (chapter 10) at a frame that there is: whether it has room for the parameters of what it calls. Conditions: each Call names a frame, and each frame has at most 8 parameters.
-/
namespace Go.Proofs.YtafegghdhdgioaaDoor
open Go.RowKit

set_option maxHeartbeats 2000000 in
theorem rcalls_any (Al : Int) (A : Option Addr) (n c : Nat) (hs : List Fd) (F : Tg) (lo B i : Nat) (P S : Int) (A1 : Option Addr) (n1 c1 : Nat) (f' : Fm) (w : World) (H : Hid (TgAt w lo B A n c hs F)) (hB : B ≤ w.heap.size) (hf : Hid (F[i]? = some f')) (hh : Hid (hs[i]? = some ⟨P, S, A1, n1, c1⟩))
    (hcall : Hid (∀ x ∈ f'.code, x.op = 22 → 0 ≤ x.a ∧ x.a < n)) (hpar : Hid (∀ g ∈ F, 0 ≤ g.params ∧ g.params ≤ 8)) :
    Calls Tryd.prog 69 #[tv Al A n c, mv P S A1 n1 c1] w fun e w' => e = .returned (.bool (roomB F f')) ∧ Below w.heap.size w w' := by
  have hin : i < n := by rw [← H.out.len]; exact (List.getElem?_eq_some_iff.1 hf.out).1
  obtain ⟨b, off, rfl, hb, h, -, -, -⟩ := fm_at' H.out hf.out hh.out
  have hn := H.out.cap.2.2
  have HL := hide (show f'.code.length = n1 from h.l)
  have HS := hide (show S = f'.size from h.s)
  have HC := hide h.c
  have hn1 : n1 ≤ 8796093022208 := h.k.2.2
  obtain ⟨W3, hW3, hb3, hs3, r0, r1⟩ := boxes2q w [.int .i64 Al, .slice (some ⟨b, off, none⟩) n c] [.int .i64 P, .int .i64 S, .slice A1 n1 c1] 62 85
  have HW3 := hide hW3
  have HB3 := hide hb3
  have T3 := hide r0
  have R3 := hide r1
  have x2 := r1.cell (k := 2) rfl
  clear h hh hW3 hb3 hs3 r0 r1
  go_enter Tryd.func69, Tryd.ntmps69
  go_upto_region 1 with (fail)
  rw [HW3.out]
  clear HW3
  obtain ⟨g, hg⟩ : ∃ g, w.heap.size + 1 = g := ⟨_, rfl⟩
  rw [hg] at R3 x2 ⊢
  clear hg
  go_wp2_with fail
  clear x2
  go_loopw [5] (fun s wr => ∃ k : Nat, k ≤ n1 ∧ s = .int .i64 k ∧ Hid (∀ j (hj : j < f'.code.length), j < k → callB F f' f'.code[j] = true) ∧ Hid (Below W3.heap.size W3 wr)) (fun s _ => n1 - (intOf s).toNat)
  case atStart => exact ⟨0, by omega, rfl, hide (fun j hj h => by omega), hide (Below.refl _ _)⟩
  case round =>
    obtain ⟨k, hk, rfl, hno, hbr⟩ := hrel
    have HB4 := hide (HB3.out.trans (hbr.out.mono HB3.out.size))
    have R4 := hide (R3.out.call hbr.out)
    have T4 := hide (T3.out.call hbr.out)
    have f1 := R4.out.cell (k := 1) rfl
    have f2 := R4.out.cell (k := 2) rfl
    have t1 := T4.out.cell (k := 1) rfl
    by_cases hlt : k < n1
    · have hkl : k < f'.code.length := by have := HL.out; omega
      obtain ⟨bb, oo, rfl, hbb, x0, x1, -, -, -⟩ := ins_at (HC.out.below (HB4.out.mono hB)) hkl
      have HNO := hide (fun (h : callB F f' f'.code[k] = false) => roomB_no hkl h)
      have HCA := hide (hcall.out _ (List.getElem_mem hkl))
      obtain ⟨x, hx⟩ : ∃ x, f'.code[k] = x := ⟨_, rfl⟩
      have HX := hide hx
      rw [hx] at HNO HCA x0 x1
      obtain ⟨o, a, b', d, m⟩ := x
      simp only at x0 x1
      have hkz : (0 : Int) ≤ (k : Int) := by omega
      have hkz' : (k : Int) < (n1 : Int) := by omega
      clear hx
      by_cases h22 : o = 22
      · subst h22
        obtain ⟨a0, a1⟩ := HCA.out rfl
        simp only at a0 a1
        obtain ⟨j, rfl⟩ := Int.eq_ofNat_of_zero_le a0
        obtain ⟨b2, o2, P2, S2, A2, n2, c2, f2', e, -, hf2, -, hd2, y0, -, -⟩ := fm_at (H.out.below (HB4.out.mono hB)) (k := j) (by omega)
        injection e with e
        injection e with e1 e2
        subst e1 e2
        have hP2 : P2 = f2'.params := hd2.p
        obtain ⟨P20, P21⟩ := hpar.out f2' (List.mem_of_getElem? hf2)
        rw [← hP2] at P20 P21
        have HCB := hide (show callB F f' ⟨22, (j : Int), b', d, m⟩ = decide (16 * P2 ≤ S) by rw [callB_at rfl rfl hf2, ← hP2, HS.out])
        have e16 : IntKind.i64.wrap (16 * P2) = 16 * P2 := wrap_i64 _ (by omega) (by omega)
        clear hf2 hd2 hP2
        by_cases hgt : S < 16 * P2
        · have hd : decide (S < 16 * P2) = true := decide_eq_true hgt
          have HR := hide (HNO.out (by rw [HCB.out]; exact decide_eq_false (by omega)))
          go_upto_region 4 with (fail)
          go_quiet (fail)
          go_wp2_with fail
          go_ret
          exact ⟨ret_bool HR.out.symm, drewN_below HB4.out _⟩
        · have hd : decide (S < 16 * P2) = false := decide_eq_false hgt
          have HT := hide (show callB F f' ⟨22, (j : Int), b', d, m⟩ = true by rw [HCB.out]; exact decide_eq_true (by omega))
          go_upto_region 4 with (fail)
          go_quiet (fail)
          go_wp2_with fail
          go_roundw
          case rel =>
            refine ⟨k + 1, by omega, by go_num, hide fun q hq hqk => ?_, hide (drewN_below hbr.out _)⟩
            by_cases e : q = k
            · subst e; rw [HX.out]; exact HT.out
            · exact hno.out q hq (by omega)
          case measure => simp [intOf]; omega
      · have hne : (o == 22) = false := by simpa using h22
        have HT := hide (callB_other (F := F) (f := f') (x := ⟨o, a, b', d, m⟩) h22)
        clear h22
        go_upto_region 4 with (fail)
        go_quiet (fail)
        go_wp2_with fail
        go_roundw
        case rel =>
          refine ⟨k + 1, by omega, by go_num, hide fun q hq hqk => ?_, hide (drewN_below hbr.out _)⟩
          by_cases e : q = k
          · subst e; rw [HX.out]; exact HT.out
          · exact hno.out q hq (by omega)
        case measure => simp [intOf]; omega
    · obtain rfl : k = n1 := by omega
      have HE := hide (roomB_yes (F := F) (f := f') (fun j hj => hno.out j hj (by have := HL.out; omega)))
      go_wp2_with fail
      go_ret
      exact ⟨ret_bool HE.out.symm, HB3.out.trans (hbr.out.mono HB3.out.size)⟩
end Go.Proofs.YtafegghdhdgioaaDoor
end
