import Derived.Test.YtlkcjjalkdlicaaDoorMMrcia
import Derived.Test.YtlkcjjalkdlicaaDoorMMrcib
import Derived.Test.YtlkcjjalkdlicaaDoorMMlow
import Derived.Test.YtlkcjjalkdlicaaDoorMQputi
import Derived.Test.YtlkcjjalkdlicaaDoorMVrszo
import Derived.Test.YtlkcjjalkdlicaaDoorMMfch
import Derived.Test.YtlkcjjalkdlicaaDoorMMpas
import Derived.Test.YtlkcjjalkdlicaaDoorMQcor
import Derived.Test.YtlkcjjalkdlicaaDoorMPmem
import Derived.Test.YtlkcjjalkdlicaaDoorMApn
import Derived.Test.YtlkcjjalkdlicaaDoorMKit
import Derived.ArgAppend
import Derived.Deep.QuietTactic
import Derived.BigQuiet
set_option linter.unusedVariables false
set_option linter.unusedSimpArgs false
section
/-
  The reference's CheckInstr (chapter 10) at an instruction that there is, in a frame of a right shape. Conditions: those of the types.
-/
namespace Go.Proofs.YtlkcjjalkdlicaaDoor
open Go.RowKit

theorem mu_shapes (o : Int) (h0 : 0 ≤ o) (h1 : o < 25) : (muA o = true ∧ muB o = true ∧ muC o = true ∧ muI o = false) ∨ (muA o = true ∧ muB o = true ∧ muC o = false ∧ muI o = false) ∨ (muA o = true ∧ muB o = false ∧ muC o = false ∧ muI o = false) ∨ (muA o = true ∧ muB o = false ∧ muC o = false ∧ muI o = true) ∨ (muA o = false ∧ muB o = false ∧ muC o = false ∧ muI o = true) ∨ (muA o = false ∧ muB o = false ∧ muC o = false ∧ muI o = false) := by
  have e : ∀ k : Fin 25, (muA (k.val : Int) = true ∧ muB (k.val : Int) = true ∧ muC (k.val : Int) = true ∧ muI (k.val : Int) = false) ∨ (muA (k.val : Int) = true ∧ muB (k.val : Int) = true ∧ muC (k.val : Int) = false ∧ muI (k.val : Int) = false) ∨ (muA (k.val : Int) = true ∧ muB (k.val : Int) = false ∧ muC (k.val : Int) = false ∧ muI (k.val : Int) = false) ∨ (muA (k.val : Int) = true ∧ muB (k.val : Int) = false ∧ muC (k.val : Int) = false ∧ muI (k.val : Int) = true) ∨ (muA (k.val : Int) = false ∧ muB (k.val : Int) = false ∧ muC (k.val : Int) = false ∧ muI (k.val : Int) = true) ∨ (muA (k.val : Int) = false ∧ muB (k.val : Int) = false ∧ muC (k.val : Int) = false ∧ muI (k.val : Int) = false) := by decide
  have := e ⟨o.toNat, by omega⟩
  simp only at this
  rwa [Int.toNat_of_nonneg h0] at this
theorem rchkinsm_any (Al : Int) (A : Option Addr) (n c : Nat) (hs : List Fd) (F : Tg) (lo B i k : Nat) (f : Fm) (x : Ins) (w : World) (H : Hid (TgAt w lo B A n c hs F)) (hB : B ≤ w.heap.size) (hf : Hid (F[i]? = some f)) (hx : Hid (f.code[k]? = some x)) (hsh : Hid (shB Al f = true)) :
    Calls Tryd.prog 99 #[tv Al A n c, .int .i64 (i : Int), .int .i64 (k : Int)] w fun e w' => e = .returned (.int .i64 (minsE n f x)) ∧ Below w.heap.size w w' := by
  cases hx2 : exB x.op with
  | false => exact rmci_no Al A n c hs F lo B i k f x w H hB hf hx hsh (hide hx2)
  | true =>
    have ho := exB_b hx2
    rcases mu_shapes x.op ho.1 ho.2 with h | h | h | h | h | h
    · exact rmci_tttf Al A n c hs F lo B i k f x w H hB hf hx hsh (hide hx2) (hide h)
    · exact rmci_ttff Al A n c hs F lo B i k f x w H hB hf hx hsh (hide hx2) (hide h)
    · exact rmci_tfff Al A n c hs F lo B i k f x w H hB hf hx hsh (hide hx2) (hide h)
    · exact rmci_tfft Al A n c hs F lo B i k f x w H hB hf hx hsh (hide hx2) (hide h)
    · exact rmci_ffft Al A n c hs F lo B i k f x w H hB hf hx hsh (hide hx2) (hide h)
    · exact rmci_ffff Al A n c hs F lo B i k f x w H hB hf hx hsh (hide hx2) (hide h)
end Go.Proofs.YtlkcjjalkdlicaaDoor
end

section
/-
  The reference's CheckFrame (chapter 10) at a frame that there is. Conditions: those of the types.
-/
namespace Go.Proofs.YtlkcjjalkdlicaaDoor
open Go.RowKit

set_option maxRecDepth 100000 in
set_option maxHeartbeats 4000000 in
theorem rchkfm_any (Al : Int) (A : Option Addr) (n c : Nat) (hs : List Fd) (F : Tg) (lo B i : Nat) (f : Fm) (w : World) (H : Hid (TgAt w lo B A n c hs F)) (hB : B ≤ w.heap.size) (hf : Hid (F[i]? = some f)) :
    Calls Tryd.prog 68 #[tv Al A n c, .int .i64 (i : Int)] w fun e w' => e = .returned (.int .i64 (fmE Al n f)) ∧ Below w.heap.size w w' := by
  have hin : i < n := by rw [← H.out.len]; exact (List.getElem?_eq_some_iff.1 hf.out).1
  obtain ⟨b, off, P, S, A1, n1, c1, f', rfl, hb, e1, hh, h, p0, p1, p2⟩ := fm_at H.out hin
  obtain rfl : f' = f := by rw [hf.out] at e1; injection e1 with e1; exact e1.symm
  clear e1 hh
  have hn := H.out.cap.2.2
  have HL := hide (show f'.code.length = n1 from h.l)
  have HP := hide (show P = f'.params from h.p)
  have HS := hide (show S = f'.size from h.s)
  have HC := hide h.c
  have hn1 : n1 ≤ 8796093022208 := h.k.2.2
  have hbw : b < w.heap.size := by omega
  have hb1 := below1 w (.cells #[.int .i64 Al, .slice (some ⟨b, off, none⟩) n c] 47)
  have R0 := Row.new w 47 [.int .i64 Al, .slice (some ⟨b, off, none⟩) n c]
  obtain ⟨W1, hW1⟩ : ∃ V, w.alloc (.cells #[.int .i64 Al, .slice (some ⟨b, off, none⟩) n c] 47) = V := ⟨_, rfl⟩
  rw [show ([.int .i64 Al, .slice (some ⟨b, off, none⟩) n c] : List Value).toArray = #[.int .i64 Al, .slice (some ⟨b, off, none⟩) n c] from rfl, hW1] at R0
  rw [hW1] at hb1
  have q0 := (hb1.cell (p := ⟨b, off + i * 3, none⟩) hbw).trans p0
  have q1 := (hb1.cell (p := ⟨b, off + i * 3 + 1, none⟩) hbw).trans p1
  have q2 := (hb1.cell (p := ⟨b, off + i * 3 + 2, none⟩) hbw).trans p2
  have t0 := R0.cell (k := 0) rfl
  have t1 := R0.cell (k := 1) rfl
  have HW1 := hide hW1
  have HB1 := hide hb1
  have HR0 := hide R0
  have hiz : (0 : Int) ≤ (i : Int) := by omega
  have hiz' : (i : Int) < (n : Int) := by omega
  have t0' := after_cell t0
  have t1' := after_cell t1
  have q0' := after_cell q0
  have q1' := after_cell q1
  have q2' := after_cell q2
  obtain ⟨sb, hsb⟩ : ∃ v, shB Al f' = v := ⟨_, rfl⟩
  have cw1 : ∀ p : After W1, Calls Tryd.prog 97 #[.int .i64 (i : Int), .int .i64 (n : Int)] p.w fun e w' => e = .returned (.bool true) ∧ p.w = w' := fun p => by
    have := rwith10_any (i : Int) (n : Int) p.w; rwa [withB_true.2 ⟨by omega, by omega⟩] at this
  have cw3 : ∀ p : After W1, Calls Tryd.prog 98 #[tv Al (some ⟨b, off, none⟩) n c, mv P S A1 n1 c1] p.w fun e w' => e = .returned (.bool sb) ∧ Below p.w.heap.size p.w w' := fun p => by
    have := rshape10_any Al (some ⟨b, off, none⟩) n c P S A1 n1 c1 f' p.w (hide ⟨HP.out.symm, HS.out.symm⟩); rwa [hsb] at this
  have K1 := hide cw1
  have K3 := hide cw3
  have HSB := hide hsb
  clear hW1 hb1 R0 p0 p1 p2 h cw1 cw3 hsb
  cases sb with
  | false =>
    have HR := hide (fmE_shape (N := n) HSB.out)
    go_enter Tryd.func68, Tryd.ntmps68
    go_upto_region 1 with (fail)
    rw [HW1.out]
    clear HW1
    refine wp_region_after (by kernel_rfl) (by kernel_rfl) ?_
    repeat (go_big_quiet_step ((first
      | (go_at_call 97; with_reducible exact after_same (K1.out _))
      | (go_at_call 98; with_reducible exact after_of (K3.out _)))))
    refine wpQuiet_nil ?_
    intro _ hw'
    obtain ⟨p1, hw''⟩ := hw'
    subst hw''
    clear K1 K3
    have HBP := hide (HB1.out.trans (p1.b.mono HB1.out.size))
    go_wp2_with fail
    go_ret
    exact ⟨ret_int HR.out.symm, HBP.out⟩
  | true =>
    go_enter Tryd.func68, Tryd.ntmps68
    go_upto_region 1 with (fail)
    rw [HW1.out]
    clear HW1
    refine wp_region_after (by kernel_rfl) (by kernel_rfl) ?_
    repeat (go_big_quiet_step ((first
      | (go_at_call 97; with_reducible exact after_same (K1.out _))
      | (go_at_call 98; with_reducible exact after_of (K3.out _)))))
    refine wpQuiet_nil ?_
    intro _ hw'
    obtain ⟨p1, hw''⟩ := hw'
    subst hw''
    clear K1 K3
    have HBP := hide (HB1.out.trans (p1.b.mono HB1.out.size))
    have RP := hide (HR0.out.call p1.b)
    have t1 := t1' p1
    have q0 := q0' p1
    have q1 := q1' p1
    have q2 := q2' p1
    clear t0' t1' q0' q1' q2' HB1 HR0
    obtain ⟨W2, hW2⟩ : ∃ V, p1.w = V := ⟨_, rfl⟩
    rw [hW2] at HBP RP t1 q0 q1 q2 ⊢
    clear hW2
    go_upto_region 4 with (fail)
    obtain ⟨W3, hW3⟩ : ∃ V, W2.alloc (.cells #[.int .i64 P, .int .i64 S, .slice A1 n1 c1] 83) = V := ⟨_, rfl⟩
    have RF3 := hide (show Row W3 W2.heap.size 83 [.int .i64 P, .int .i64 S, .slice A1 n1 c1] by rw [← hW3]; exact Row.new W2 _ _)
    have RT3 := hide (show Row W3 w.heap.size 47 [.int .i64 Al, .slice (some ⟨b, off, none⟩) n c] by rw [← hW3]; exact RP.out.alloc _)
    have HB3 := hide (show Below w.heap.size w W3 by rw [← hW3]; exact HBP.out.alloc HBP.out.size _)
    rw [hW3]
    obtain ⟨gf, hgf⟩ : ∃ g, W2.heap.size = g := ⟨_, rfl⟩
    rw [hgf] at RF3 ⊢
    clear hW3 hgf RP HBP q0 q1 q2 t1
    have g2 := RF3.out.cell (k := 2) rfl
    by_cases hlong : 1024 < n1
    · have HR := hide (fmE_long (N := n) HSB.out (by rw [HL.out]; exact hlong))
      have hz : (1024 : Int) < (n1 : Int) := by omega
      go_wp2_with fail
      go_ret
      exact ⟨ret_int HR.out.symm, HB3.out⟩
    · have hz' : ¬ (1024 : Int) < (n1 : Int) := by omega
      have hzz : (n1 : Int) ≤ 1024 := by omega
      have HIN := hide (fun (k : Nat) (e : Int) hk he h0 hb => fmE_instr (N := n) (k := k) (e := e) HSB.out (by rw [HL.out]; omega) hk he h0 hb)
      have HEN := hide (fun hb => fmE_end (N := n) HSB.out (by rw [HL.out]; omega) hb)
      go_wp2_with fail
      clear g2
      go_loopw [6] (fun s wr => ∃ k : Nat, k ≤ n1 ∧ s = .int .i64 k ∧ Hid (∀ j (hj : j < f'.code.length), j < k → minsE n f' f'.code[j] = 0) ∧ Hid (Below W3.heap.size W3 wr)) (fun s _ => n1 - (intOf s).toNat)
      case atStart => exact ⟨0, by omega, rfl, hide (fun j hj h => by omega), hide (Below.refl _ _)⟩
      case round =>
        obtain ⟨k, hk, rfl, hno, hbr⟩ := hrel
        have RF4 := hide (RF3.out.call hbr.out)
        have RT4 := hide (RT3.out.call hbr.out)
        have HB4 := hide (HB3.out.trans (hbr.out.mono HB3.out.size))
        have g2 := RF4.out.cell (k := 2) rfl
        have t0 := RT4.out.cell (k := 0) rfl
        have t1 := RT4.out.cell (k := 1) rfl
        by_cases hlt : k < n1
        · have hkl : k < f'.code.length := by have := HL.out; omega
          have hkz : (0 : Int) ≤ (k : Int) := by omega
          have hkz' : (k : Int) < (n1 : Int) := by omega
          have ci := rchkinsm_any Al (some ⟨b, off, none⟩) n c hs F lo B i k f' f'.code[k] wr (hide (H.out.below (HB4.out.mono hB))) (Nat.le_trans hB HB4.out.size) hf (hide (List.getElem?_eq_getElem hkl)) (hide HSB.out)
          have HIT := hide (fun h0 : minsE n f' f'.code[k] ≠ 0 => HIN.out k _ hkl rfl h0 hno.out)
          obtain ⟨ie, hie⟩ : ∃ ie, minsE n f' f'.code[k] = ie := ⟨_, rfl⟩
          rw [hie] at ci HIT
          have HIE := hide hie
          have CI := hide ci
          clear hie ci
          by_cases h0 : ie = 0
          · subst h0
            go_wp2_with fail
            refine (CI.out).mono ?_
            rintro e w2 ⟨rfl, hb2⟩
            have HB2 := hide (below_call hbr.out hb2)
            clear hb2 g2 t0 t1
            go_wp2_with fail
            go_roundw
            case rel =>
              refine ⟨k + 1, by omega, by go_num, hide fun j hj hjk => ?_, HB2⟩
              by_cases e : j = k
              · subst e; exact HIE.out
              · exact hno.out j hj (by omega)
            case measure => simp [intOf]; omega
          · have hne : (ie != 0) = true := by rw [bne_iff_ne]; exact h0
            have HR' := hide (HIT.out h0)
            clear HIT h0
            go_wp2_with fail
            refine (CI.out).mono ?_
            rintro e w2 ⟨rfl, hb2⟩
            have HB2 := hide (below_call HB4.out hb2)
            clear hb2 g2 t0 t1
            go_wp2_with fail
            go_ret
            exact ⟨ret_int HR'.out.symm, HB2.out⟩
        · obtain rfl : k = n1 := by omega
          have HE := hide (HEN.out (fun j hj => hno.out j hj (by have := HL.out; omega)))
          by_cases hk0 : k = 0
          · subst hk0
            have hc : closedB f'.code = false := by rw [List.eq_nil_of_length_eq_zero HL.out]; rfl
            have HZ := hide (show fmE Al n f' = 6 by rw [HE.out, hc]; rfl)
            clear hc
            go_wp2_with fail
            go_ret
            exact ⟨ret_int HZ.out.symm, HB4.out⟩
          · obtain ⟨q, rfl⟩ : ∃ q, k = q + 1 := ⟨k - 1, by omega⟩
            have hq : q < f'.code.length := by have := HL.out; omega
            have hc := closedB_at' (l := f'.code) (k := q) HL.out.symm
            obtain ⟨bb, oo, rfl, hbb, x0, -, -, -, -⟩ := ins_at (HC.out.below (HB4.out.mono hB)) hq
            obtain ⟨o, ho⟩ : ∃ o, (f'.code[q]'hq).op = o := ⟨_, rfl⟩
            rw [ho] at x0 hc
            have ct := r5term_any o
            obtain ⟨tb, htb⟩ : ∃ v, termB o = v := ⟨_, rfl⟩
            rw [htb] at ct
            rw [htb] at hc
            have HZ := hide (show fmE Al n f' = if tb = false then 6 else 0 by rw [HE.out, hc])
            have e1 : ((q + 1 : Nat) : Int) - 1 = (q : Int) := by omega
            have hz0 : (((q + 1 : Nat) : Int) == 0) = false := by simp; omega
            have hqz : (0 : Int) ≤ (q : Int) := by omega
            have hqz' : (q : Int) < ((q + 1 : Nat) : Int) := by omega
            clear hc ho htb hk0
            cases tb with
            | false =>
              go_wp2_with fail
              refine (ct _).mono ?_
              rintro e w' ⟨rfl, rfl⟩
              go_wp2_with fail
              go_ret
              exact ⟨ret_int HZ.out.symm, HB4.out⟩
            | true =>
              go_wp2_with fail
              refine (ct _).mono ?_
              rintro e w' ⟨rfl, rfl⟩
              go_wp2_with fail
              go_ret
              exact ⟨ret_int HZ.out.symm, HB4.out⟩
end Go.Proofs.YtlkcjjalkdlicaaDoor
end

section
/-
  The reference's calls (chapter 10) at a frame that there is: whether it has room for the parameters of what it calls. Conditions: each Call names a frame, and each frame has at most 8 parameters.
-/
namespace Go.Proofs.YtlkcjjalkdlicaaDoor
open Go.RowKit

set_option maxHeartbeats 2000000 in
theorem rcalls_any (Al : Int) (A : Option Addr) (n c : Nat) (hs : List Fd) (F : Tg) (lo B i : Nat) (P S : Int) (A1 : Option Addr) (n1 c1 : Nat) (f' : Fm) (w : World) (H : Hid (TgAt w lo B A n c hs F)) (hB : B ≤ w.heap.size) (hf : Hid (F[i]? = some f')) (hh : Hid (hs[i]? = some ⟨P, S, A1, n1, c1⟩))
    (hcall : Hid (∀ x ∈ f'.code, x.op = 22 → 0 ≤ x.a ∧ x.a < n)) (hpar : Hid (∀ g ∈ F, 0 ≤ g.params ∧ g.params ≤ 8)) :
    Calls Tryd.prog 69 #[tv Al A n c, mv P S A1 n1 c1] w fun e w' => e = .returned (.bool (roomB F f')) ∧ Below w.heap.size w w' := by
  have hin : i < n := by rw [← H.out.len]; exact (List.getElem?_eq_some_iff.1 hf.out).1
  obtain ⟨b, off, rfl, hb, h, -, -, -⟩ := fm_at' H.out hf.out hh.out
  have hn := H.out.cap.2.2
  have HL := hide (show f'.code.length = n1 from h.l)
  have HS := hide (show S = f'.size from h.s)
  have HC := hide h.c
  have hn1 : n1 ≤ 8796093022208 := h.k.2.2
  obtain ⟨W3, hW3, hb3, hs3, r0, r1⟩ := boxes2q w [.int .i64 Al, .slice (some ⟨b, off, none⟩) n c] [.int .i64 P, .int .i64 S, .slice A1 n1 c1] 47 83
  have HW3 := hide hW3
  have HB3 := hide hb3
  have T3 := hide r0
  have R3 := hide r1
  have x2 := r1.cell (k := 2) rfl
  clear h hh hW3 hb3 hs3 r0 r1
  go_enter Tryd.func69, Tryd.ntmps69
  go_upto_region 1 with (fail)
  rw [HW3.out]
  clear HW3
  obtain ⟨g, hg⟩ : ∃ g, w.heap.size + 1 = g := ⟨_, rfl⟩
  rw [hg] at R3 x2 ⊢
  clear hg
  go_wp2_with fail
  clear x2
  go_loopw [5] (fun s wr => ∃ k : Nat, k ≤ n1 ∧ s = .int .i64 k ∧ Hid (∀ j (hj : j < f'.code.length), j < k → callB F f' f'.code[j] = true) ∧ Hid (Below W3.heap.size W3 wr)) (fun s _ => n1 - (intOf s).toNat)
  case atStart => exact ⟨0, by omega, rfl, hide (fun j hj h => by omega), hide (Below.refl _ _)⟩
  case round =>
    obtain ⟨k, hk, rfl, hno, hbr⟩ := hrel
    have HB4 := hide (HB3.out.trans (hbr.out.mono HB3.out.size))
    have R4 := hide (R3.out.call hbr.out)
    have T4 := hide (T3.out.call hbr.out)
    have f1 := R4.out.cell (k := 1) rfl
    have f2 := R4.out.cell (k := 2) rfl
    have t1 := T4.out.cell (k := 1) rfl
    by_cases hlt : k < n1
    · have hkl : k < f'.code.length := by have := HL.out; omega
      obtain ⟨bb, oo, rfl, hbb, x0, x1, -, -, -⟩ := ins_at (HC.out.below (HB4.out.mono hB)) hkl
      have HNO := hide (fun (h : callB F f' f'.code[k] = false) => roomB_no hkl h)
      have HCA := hide (hcall.out _ (List.getElem_mem hkl))
      obtain ⟨x, hx⟩ : ∃ x, f'.code[k] = x := ⟨_, rfl⟩
      have HX := hide hx
      rw [hx] at HNO HCA x0 x1
      obtain ⟨o, a, b', d, m⟩ := x
      simp only at x0 x1
      have hkz : (0 : Int) ≤ (k : Int) := by omega
      have hkz' : (k : Int) < (n1 : Int) := by omega
      clear hx
      by_cases h22 : o = 22
      · subst h22
        obtain ⟨a0, a1⟩ := HCA.out rfl
        simp only at a0 a1
        obtain ⟨j, rfl⟩ := Int.eq_ofNat_of_zero_le a0
        obtain ⟨b2, o2, P2, S2, A2, n2, c2, f2', e, -, hf2, -, hd2, y0, -, -⟩ := fm_at (H.out.below (HB4.out.mono hB)) (k := j) (by omega)
        injection e with e
        injection e with e1 e2
        subst e1 e2
        have hP2 : P2 = f2'.params := hd2.p
        obtain ⟨P20, P21⟩ := hpar.out f2' (List.mem_of_getElem? hf2)
        rw [← hP2] at P20 P21
        have HCB := hide (show callB F f' ⟨22, (j : Int), b', d, m⟩ = decide (16 * P2 ≤ S) by rw [callB_at rfl rfl hf2, ← hP2, HS.out])
        have e16 : IntKind.i64.wrap (16 * P2) = 16 * P2 := wrap_i64 _ (by omega) (by omega)
        clear hf2 hd2 hP2
        by_cases hgt : S < 16 * P2
        · have hd : decide (S < 16 * P2) = true := decide_eq_true hgt
          have HR := hide (HNO.out (by rw [HCB.out]; exact decide_eq_false (by omega)))
          go_upto_region 4 with (fail)
          go_quiet (fail)
          go_wp2_with fail
          go_ret
          exact ⟨ret_bool HR.out.symm, drewN_below HB4.out _⟩
        · have hd : decide (S < 16 * P2) = false := decide_eq_false hgt
          have HT := hide (show callB F f' ⟨22, (j : Int), b', d, m⟩ = true by rw [HCB.out]; exact decide_eq_true (by omega))
          go_upto_region 4 with (fail)
          go_quiet (fail)
          go_wp2_with fail
          go_roundw
          case rel =>
            refine ⟨k + 1, by omega, by go_num, hide fun q hq hqk => ?_, hide (drewN_below hbr.out _)⟩
            by_cases e : q = k
            · subst e; rw [HX.out]; exact HT.out
            · exact hno.out q hq (by omega)
          case measure => simp [intOf]; omega
      · have hne : (o == 22) = false := by simpa using h22
        have HT := hide (callB_other (F := F) (f := f') (x := ⟨o, a, b', d, m⟩) h22)
        clear h22
        go_upto_region 4 with (fail)
        go_quiet (fail)
        go_wp2_with fail
        go_roundw
        case rel =>
          refine ⟨k + 1, by omega, by go_num, hide fun q hq hqk => ?_, hide (drewN_below hbr.out _)⟩
          by_cases e : q = k
          · subst e; rw [HX.out]; exact HT.out
          · exact hno.out q hq (by omega)
        case measure => simp [intOf]; omega
    · obtain rfl : k = n1 := by omega
      have HE := hide (roomB_yes (F := F) (f := f') (fun j hj => hno.out j hj (by have := HL.out; omega)))
      go_wp2_with fail
      go_ret
      exact ⟨ret_bool HE.out.symm, HB3.out.trans (hbr.out.mono HB3.out.size)⟩
end Go.Proofs.YtlkcjjalkdlicaaDoor
end

section
/-
  The contract of the reference's Check (chapter 10): the first error of a target. Conditions: those of the types.
-/
namespace Go.Proofs.YtlkcjjalkdlicaaDoor
open Go.RowKit

set_option maxHeartbeats 4000000 in
theorem rchktg_any (Al : Int) (A : Option Addr) (n c : Nat) (hs : List Fd) (F : Tg) (lo B : Nat) (w : World) (H : Hid (TgAt w lo B A n c hs F)) (hB : B ≤ w.heap.size) :
    Calls Tryd.prog 37 #[tv Al A n c] w fun e w' => e = .returned (.int .i64 (tgE Al F)) ∧ Below w.heap.size w w' := by
  have hn := cap_le H.out.cap
  have HL := hide H.out.len
  by_cases hmany : 80 < n
  · have HR := hide (show tgE Al F = 3 from tgE_many (by rw [HL.out]; exact hmany))
    have hz : (80 : Int) < (n : Int) := by omega
    go_enter Tryd.func37, Tryd.ntmps37
    go_wp2_with fail
    go_ret
    exact ⟨ret_int HR.out.symm, below1 _ _⟩
  · by_cases hzero : n = 0
    · subst hzero
      have HR := hide (show tgE Al F = 4 by rw [List.eq_nil_of_length_eq_zero HL.out]; rfl)
      go_enter Tryd.func37, Tryd.ntmps37
      go_wp2_with fail
      go_ret
      exact ⟨ret_int HR.out.symm, below1 _ _⟩
    · have hpos : 0 < n := by omega
      obtain ⟨b, off, P, S, A1, n1, c1, f0, rfl, hbB, hf0, _, h, p0, p1, p2⟩ := fm_at H.out hpos
      have hP : P = f0.params := h.p
      have hbw : b < w.heap.size := by omega
      have hle : F.length ≤ 80 := by have := HL.out; omega
      have hz : ¬ (80 : Int) < (n : Int) := by omega
      have hz0 : ((n : Int) == 0) = false := by simp; omega
      have hzn : (0 : Int) < (n : Int) := by omega
      rw [Nat.zero_mul, Nat.add_zero] at p0
      have cp := rpower_any Al
      have hHL := hide hle
      have HF0 := hide hf0
      have HP := hide hP
      clear h hf0 p1 p2 hP hzero hle
      cases hpw : powB Al with
      | false =>
        rw [hpw] at cp
        have HR := hide (tgE_align hHL.out HF0.out (.inl hpw))
        clear hpw
        go_enter Tryd.func37, Tryd.ntmps37
        go_wp2_with fail
        refine (cp _).mono ?_
        rintro e w' ⟨rfl, rfl⟩
        go_wp2_with fail
        go_ret
        exact ⟨ret_int HR.out.symm, below1 _ _⟩
      | true =>
        rw [hpw] at cp
        by_cases hal : Al < 16
        · have HR := hide (tgE_align hHL.out HF0.out (.inr hal))
          clear hpw
          go_enter Tryd.func37, Tryd.ntmps37
          go_wp2_with fail
          refine (cp _).mono ?_
          rintro e w' ⟨rfl, rfl⟩
          go_wp2_with fail
          go_ret
          exact ⟨ret_int HR.out.symm, below1 _ _⟩
        · by_cases hp : P = 0
          · subst hp
            have HR := hide (tgE_rest hHL.out HF0.out ⟨hpw, by omega⟩ HP.out.symm)
            have HB0 := hide (below1 w (.cells #[.int .i64 Al, .slice (some ⟨b, off, none⟩) n c] 47))
            have R0 := hide (Row.new w 47 [.int .i64 Al, .slice (some ⟨b, off, none⟩) n c])
            clear hpw
            go_enter Tryd.func37, Tryd.ntmps37
            go_wp2_with fail
            refine (cp _).mono ?_
            rintro e w' ⟨rfl, rfl⟩
            go_wp2_with fail
            obtain ⟨W1, hW1⟩ : ∃ V, (w.alloc (.cells #[.int .i64 Al, .slice (some ⟨b, off, none⟩) n c] 47)) = V := ⟨_, rfl⟩
            rw [show ([.int .i64 Al, .slice (some ⟨b, off, none⟩) n c] : List Value).toArray = #[.int .i64 Al, .slice (some ⟨b, off, none⟩) n c] from rfl] at R0
            rw [hW1] at HB0 R0 ⊢
            clear hW1 p0 cp
            go_loopw [3] (fun s wr => ∃ k : Nat, k ≤ n ∧ s = .int .i64 k ∧ Hid (∀ j (hj : j < F.length), j < k → fmE Al n F[j] = 0) ∧ Hid (Below W1.heap.size W1 wr)) (fun s _ => n - (intOf s).toNat)
            case atStart => exact ⟨0, by omega, rfl, hide (fun j hj h => by omega), hide (Below.refl _ _)⟩
            case round =>
              obtain ⟨k, hk, rfl, hno, hbr⟩ := hrel
              have v0 := (R0.out.call hbr.out).cell (k := 0) rfl
              have v1 := (R0.out.call hbr.out).cell (k := 1) rfl
              have HBR := hide (HB0.out.trans (hbr.out.mono HB0.out.size))
              by_cases hlt : k < n
              · have hkl : k < F.length := by have := HL.out; omega
                have hx := List.getElem?_eq_getElem hkl
                have ci := rchkfm_any Al (some ⟨b, off, none⟩) n c hs F lo B k F[k] wr (hide (H.out.below (HBR.out.mono hB))) (Nat.le_trans hB HBR.out.size) (hide hx)
                have HIT := hide (fun h0 : fmE Al n F[k] ≠ 0 => show tgE Al F = fmE Al n F[k] by
                  have hf : firstE (F.map (fmE Al F.length)) = fmE Al n F[k] := by
                    rw [HL.out]
                    exact firstE_hit (k := k) (by rw [List.getElem?_map, List.getElem?_eq_getElem hkl]; rfl) h0 fun j hj => by
                      have hl : j < F.length := by omega
                      rw [List.getElem?_map, List.getElem?_eq_getElem hl]; simp [hno.out j hl hj]
                  rw [HR.out, if_pos (by rw [hf]; exact h0), hf])
                obtain ⟨ie, hie⟩ : ∃ ie, fmE Al n F[k] = ie := ⟨_, rfl⟩
                rw [hie] at ci HIT
                have HIE := hide hie
                have CI := hide ci
                clear ci hie hx
                by_cases h0 : ie = 0
                · subst h0
                  go_wp2_with fail
                  refine (CI.out).mono ?_
                  rintro e w2 ⟨rfl, hb2⟩
                  have HB2 := hide (below_call hbr.out hb2)
                  clear hb2 v0 v1
                  go_wp2_with fail
                  go_roundw
                  case rel =>
                    refine ⟨k + 1, by omega, by go_num, hide fun j hj hjk => ?_, HB2⟩
                    by_cases e : j = k
                    · subst e; exact HIE.out
                    · exact hno.out j hj (by omega)
                  case measure => simp [intOf]; omega
                · have hne : (ie != 0) = true := by rw [bne_iff_ne]; exact h0
                  have HR' := hide (HIT.out h0)
                  clear HIT h0
                  go_wp2_with fail
                  refine (CI.out).mono ?_
                  rintro e w2 ⟨rfl, hb2⟩
                  have HB2 := hide (below_call HBR.out hb2)
                  clear hb2 v0 v1
                  go_wp2_with fail
                  go_ret
                  exact ⟨ret_int HR'.out.symm, HB2.out⟩
              · obtain rfl : k = n := by omega
                have HALL := hide (show ∀ j (hj : j < F.length), fmE Al k F[j] = 0 from fun j hj => hno.out j hj (by have := HL.out; omega))
                have HE := hide (show tgE Al F = if F.all (roomB F) then 0 else 7 by
                  have hf : firstE (F.map (fmE Al F.length)) = 0 := by
                    rw [firstE_zero, HL.out]
                    intro e he
                    obtain ⟨x, hx, rfl⟩ := List.mem_map.1 he
                    obtain ⟨j, hj, rfl⟩ := List.mem_iff_getElem.1 hx
                    exact HALL.out j hj
                  rw [HR.out, if_neg (by rw [hf]; simp)])
                have HPAR := hide (show ∀ g ∈ F, 0 ≤ g.params ∧ g.params ≤ 8 from fun g hg => by
                  obtain ⟨j, hj, rfl⟩ := List.mem_iff_getElem.1 hg
                  exact (shB_b (fmE_zero (HALL.out j hj)).1).1)
                have hbs := hbr.out.size
                go_wp2_with fail
                clear v0 v1
                go_loopw [5] (fun s wr => ∃ q : Nat, q ≤ k ∧ s = .int .i64 q ∧ Hid (∀ j (hj : j < F.length), j < q → roomB F F[j] = true) ∧ Hid (Below W1.heap.size W1 wr)) (fun s _ => k - (intOf s).toNat)
                case atStart => exact ⟨0, by omega, rfl, hide (fun j hj h => by omega), hbr⟩
                case round =>
                  obtain ⟨q, hq, rfl, hno2, hbq⟩ := hrel
                  have v0 := (R0.out.call hbq.out).cell (k := 0) rfl
                  have v1 := (R0.out.call hbq.out).cell (k := 1) rfl
                  have HBQ := hide (HB0.out.trans (hbq.out.mono HB0.out.size))
                  by_cases hlt : q < k
                  · have hkl : q < F.length := by have := HL.out; omega
                    have hx := List.getElem?_eq_getElem hkl
                    obtain ⟨bq, oq, Pq, Sq, Aq, nq, cq, fq, eq_, -, hfq, hhq, -, e0, e1, e2⟩ := fm_at (H.out.below (HBQ.out.mono hB)) (k := q) (by omega)
                    injection eq_ with eq_
                    injection eq_ with eqa eqb
                    subst eqa eqb
                    obtain rfl : fq = F[q] := by rw [hx] at hfq; injection hfq with hfq; exact hfq.symm
                    have ci : ∀ p : After wr, Calls Tryd.prog 69 #[tv Al (some ⟨b, off, none⟩) k c, mv Pq Sq Aq nq cq] p.w fun e w' => e = .returned (.bool (roomB F F[q])) ∧ Below p.w.heap.size p.w w' := fun p => rcalls_any Al (some ⟨b, off, none⟩) k c hs F lo B q Pq Sq Aq nq cq F[q] p.w (hide (H.out.below ((HBQ.out.trans (p.b.mono HBQ.out.size)).mono hB))) (Nat.le_trans hB (Nat.le_trans HBQ.out.size p.b.size)) (hide hx) (hide hhq) (hide fun x hx h22 => mins_call ((fmE_zero (HALL.out q hkl)).2.2.1 x hx) h22) HPAR
                    have v0' := after_cell v0
                    have v1' := after_cell v1
                    have e0' := after_cell e0
                    have e1' := after_cell e1
                    have e2' := after_cell e2
                    have hqz : (0 : Int) ≤ (q : Int) := by omega
                    have hqz' : (q : Int) < (k : Int) := by omega
                    have HIT := hide (fun h0 : roomB F F[q] = false => show tgE Al F = 7 by
                      rw [HE.out, if_neg (by
                        rw [Bool.not_eq_true, List.all_eq_false]
                        exact ⟨_, List.getElem_mem hkl, by simp [h0]⟩)])
                    obtain ⟨rb, hrb⟩ : ∃ v, roomB F F[q] = v := ⟨_, rfl⟩
                    rw [hrb] at ci HIT
                    have HRB := hide hrb
                    have CI := hide ci
                    clear ci hrb hx hfq hhq e0 e1 e2
                    cases rb with
                    | true =>
                      go_upto_region 18 with (fail)
                      refine wp_region_after (by kernel_rfl) (by kernel_rfl) ?_
                      repeat (go_big_quiet_step ((go_at_call 69; with_reducible exact after_of (CI.out _))))
                      refine wpQuiet_nil ?_
                      intro _ hw'
                      obtain ⟨p1, hw''⟩ := hw'
                      subst hw''
                      have HB2 := hide (below_call hbq.out p1.b)
                      clear v0 v1 v0' v1' e0' e1' e2'
                      go_wp2_with fail
                      go_roundw
                      case rel =>
                        refine ⟨q + 1, by omega, by go_num, hide fun j hj hjk => ?_, HB2⟩
                        by_cases e : j = q
                        · subst e; exact HRB.out
                        · exact hno2.out j hj (by omega)
                      case measure => simp [intOf]; omega
                    | false =>
                      have HR' := hide (HIT.out rfl)
                      clear HIT
                      go_upto_region 18 with (fail)
                      refine wp_region_after (by kernel_rfl) (by kernel_rfl) ?_
                      repeat (go_big_quiet_step ((go_at_call 69; with_reducible exact after_of (CI.out _))))
                      refine wpQuiet_nil ?_
                      intro _ hw'
                      obtain ⟨p1, hw''⟩ := hw'
                      subst hw''
                      have HB2 := hide (below_call HBQ.out p1.b)
                      clear v0 v1 v0' v1' e0' e1' e2'
                      go_wp2_with fail
                      go_ret
                      exact ⟨ret_int HR'.out.symm, HB2.out⟩
                  · obtain rfl : q = k := by omega
                    have HZ := hide (show tgE Al F = 0 by
                      rw [HE.out, if_pos]
                      rw [List.all_eq_true]
                      intro x hx
                      obtain ⟨j, hj, rfl⟩ := List.mem_iff_getElem.1 hx
                      exact hno2.out j hj (by have := HL.out; omega))
                    go_wp2_with fail
                    go_ret
                    exact ⟨ret_int HZ.out.symm, HBQ.out⟩
          · have hne : (P != 0) = true := by rw [bne_iff_ne]; exact hp
            have HR := hide (tgE_entry hHL.out HF0.out ⟨hpw, by omega⟩ (by rw [← HP.out]; exact hp))
            clear hpw hp
            go_enter Tryd.func37, Tryd.ntmps37
            go_wp2_with fail
            refine (cp _).mono ?_
            rintro e w' ⟨rfl, rfl⟩
            go_wp2_with fail
            go_ret
            exact ⟨ret_int HR.out.symm, below1 _ _⟩
end Go.Proofs.YtlkcjjalkdlicaaDoor
end

section
/-
  The contract of chapter 11's mended. Conditions: those of the types.
-/
namespace Go.Proofs.YtlkcjjalkdlicaaDoor
open Go.RowKit

/-- Bytes whose last four are made their checksum. -/
def jmend (zs : List Int) : List Int := if zs.length < 4 then zs else withY (zs.take (zs.length - 4))
theorem jmend_byt {zs : List Int} (h : Byt zs) : Byt (jmend zs) := by
  unfold jmend
  split
  · exact h
  · exact (h.take _).app (crcI_bytes _)
/-- Bytes that a call returns. -/
def JBs (ys : List Int) (w : World) (e : Ending) (w' : World) : Prop := ∃ (A : Option Addr) (n c : Nat), e = .returned (.slice A n c) ∧ BsAt w' w'.heap.size A n c ys ∧ Below w.heap.size w w'

set_option maxRecDepth 100000 in
set_option maxHeartbeats 1600000 in
theorem jmended_any (A : Option Addr) (n c : Nat) (zs : List Int) (w : World) (h : Hid (BsAt w w.heap.size A n c zs)) (hm : n ≤ 1099511627776) :
    Calls Tryd.prog 23 #[.slice A n c] w (JBs (jmend zs) w) := by
  by_cases h4 : n < 4
  · have hz : (n : Int) < 4 := by omega
    have FIN := hide (show JBs (jmend zs) w (.returned (.slice A n c)) w from ⟨A, n, c, rfl, by unfold jmend; rw [if_pos (by rw [h.out.len]; exact h4)]; exact h.out, Below.refl _ _⟩)
    go_enter Tryd.func23, Tryd.ntmps23
    go_wp2_with fail
    go_ret
    exact FIN.out
  · obtain ⟨m, rfl⟩ : ∃ m, n = m + 4 := ⟨n - 4, by omega⟩
    obtain ⟨b, off, _, rfl, _⟩ := byte_at (zs := zs) (k := 0) h.out.see (by rw [h.out.len]; omega) h.out.byt
    obtain ⟨i0, hi, hz0, hz1, hz2⟩ := info_parts Tryd.info5
    have hz : ¬ ((m : Int) + 4 < 4) := by omega
    have hw1 : IntKind.i64.wrap ((m : Int) + 4 - 4) = (m : Int) := by rw [IntKind.wrap_i64]; omega
    have hmz : (0 : Int) ≤ (m : Int) := by omega
    have hnc := h.out.nc
    have hmc : (m : Int) ≤ (c : Int) := by omega
    have hmc' := hide (show m ≤ c by omega)
    have HT := hide (h.out.take (k := m) (by omega))
    have EM := hide (show jmend zs = withY (zs.take m) by unfold jmend; rw [if_neg (by rw [h.out.len]; omega), h.out.len, Nat.add_sub_cancel])
    clear hnc
    go_enter Tryd.func23, Tryd.ntmps23
    go_wp2_with (at_builtin; refine wpList_append_seesN rfl (.const (.slice none 0 0)) (.tmp 11) 22 rfl w.heap.size 5 i0 (.int .u8 0) 1 1 Tryd.underlying22 hi hz0 hz1 hz2 rfl (by decide) (.slice none 0 0) 0 [] rfl (World.ownsRow_nil _ _ _ _) w.heap.size (some ⟨b, off, none⟩) m c (cellsU8 (zs.take m)) rfl (hide (fun e => by cases e)) (hide (by have := HT.out.len; simp [cellsU8]; simpa using this)) (hide HT.out.see) hmc' (one_u8 _) (by unfold maxLen; omega) (by omega) (Nat.le_refl _) ?_)
    intro v1 w1 ho0 hg1
    have ho1 : w1.ownsRow w.heap.size 5 1 v1 m (cellsU8 (zs.take m)) := by simpa using ho0
    clear ho0
    have B1 := hide (show Below w.heap.size w w1 from (Below.refl _ _).grown hg1 (Nat.le_refl _) (fun k hk => by cases hk))
    have O1 := hide ho1
    have cp := rputcrc_any v1 m (zs.take m) w.heap.size w1 O1 (hide B1.out.size) (by omega) (hide HT.out.byt)
    obtain ⟨A1, c1, rfl, -, -, -, -⟩ := own_seen O1.out
    clear ho1 hg1
    go_wp2_with fail
    refine cp.mono ?_
    rintro e w2 ⟨r2, rfl, ho2, hg2⟩
    have B2 := hide (below_append B1.out O1.out (Nat.le_refl _) hg2 B1.out.size)
    obtain ⟨A2, c2, rfl, -, -, -, -⟩ := own_seen ho2
    have FIN := hide (show JBs (jmend zs) w (.returned (.slice A2 (m + 4) c2)) w2 from ⟨A2, m + 4, c2, rfl, by rw [EM.out]; exact BsAt.own ho2 (HT.out.byt.app (crcI_bytes _)), B2.out⟩)
    clear ho2 hg2 cp
    go_wp2_with fail
    go_ret
    exact FIN.out
end Go.Proofs.YtlkcjjalkdlicaaDoor
end

section
/-
  Appends to a literal: what comes in may be empty. No function of the program is named here.
-/
namespace Go.Proofs.YtlkcjjalkdlicaaDoor
open Go.RowKit

/-- Bytes in a row of the call's own, or at a literal without room behind it. -/
def Ext (base : Nat) (w : World) (v : Value) (n : Nat) (zs : List Int) : Prop :=
  w.ownsRow base 5 1 v n (cellsU8 zs) ∨ ∃ g B, v = .slice (some ⟨g, 0, none⟩) n n ∧ B ≤ w.heap.size ∧ zs.length = n ∧ Sees w B (some ⟨g, 0, none⟩) (cellsU8 zs)
theorem Ext.alloc {base : Nat} {w : World} {v : Value} {n : Nat} {zs : List Int} (h : Ext base w v n zs) (o : Obj) : Ext base (w.alloc o) v n zs := by
  rcases h with h | ⟨g, B, e, hB, hl, hs⟩
  · exact .inl (h.alloc o)
  · exact .inr ⟨g, B, e, by simp; omega, hl, hs.alloc hB o⟩
theorem run_append_empty {P : Program} (w : World) {t ty e : TypeId} {i : TypeInfo} (ht : P.underlying t = some (.slice e)) (hi : P.info? e = some i) (g k c : Nat) (A : Option Addr) (hA : A = none → c = 0) :
    (Builtin.append_ #[t, t] ty #[.slice (some ⟨g, 0, none⟩) k k, .slice A 0 c]).run P w = .ok (.slice (some ⟨g, 0, none⟩) k k) w := by
  cases A with
  | none =>
    obtain rfl := hA rfl
    simp [Builtin.append_, run_underlying ht, sizeOf, typeInfo, hi, Builtin.lenOf, Builtin.firstCells, storeCells]
  | some ad =>
    have h := run_append_room_cells (P := P) w t ty e i ht hi g 0 k k ad 0 c [] (by simp) (fun j u hu => by simp at hu) (fun u hu => by cases hu) (by omega) (fun j hj => by simp at hj) (fun j hj => by simp at hj)
    rw [h]
    rfl
/-- append(literal, x...), x any bytes. -/
theorem wp_append_lit {P : Program} {w : World} {o : Oper} {a : Act} {K : Act → World → Prop} {Q : Exit → Act → World → Prop} (s x : Operand) (t : TypeId)
    (ho : o.op = .call { callee := .builtin .append, args := #[s, x], argTypes := #[t, t] })
    (i : TypeInfo) (ht : P.underlying t = some (.slice 5)) (hi : P.info? 5 = some i) (hz : i.zero = some (.int .u8 0)) (hsize : i.size = 1) (hby : i.bytes = 1)
    (g k : Nat) (zs : List Int) (B : Nat) (hs : a.eval s = .slice (some ⟨g, 0, none⟩) k k) (hB : B ≤ w.heap.size) (hl : zs.length = k) (hsee : Hid (Sees w B (some ⟨g, 0, none⟩) (cellsU8 zs))) (hk : k ≤ 100)
    (A : Option Addr) (m c : Nat) (bs : List Int) (hx : a.eval x = .slice A m c) (hbs : Hid (BsAt w w.heap.size A m c bs)) (hm : m ≤ 1048576)
    (h : ∀ v' w', Ext w.heap.size w' v' (k + m) (zs ++ bs) → Below w.heap.size w w' → K (a.put o.dst v') w') : o.wp P a w K Q := by
  rcases Nat.eq_zero_or_pos m with h0 | h0
  · subst h0
    have hb0 : bs = [] := List.eq_nil_of_length_eq_zero hbs.out.len
    subst hb0
    have hrun := run_append_empty (P := P) w (ty := o.type) ht hi g k c A hbs.out.nil_
    unfold Oper.wp
    simp [execOp, ho, resolve, invoke, builtin, hs, hx, hrun, Result.andThen]
    exact h _ w (by rw [List.append_nil]; exact .inr ⟨g, B, rfl, hB, hl, hsee.out⟩) (Below.refl _ _)
  · obtain ⟨ad, rfl, hsrc⟩ := hbs.out.see.src (by simp [cellsU8]; rw [hbs.out.len]; exact h0)
    obtain ⟨v', w', hrun, r1, r2⟩ := run_append_arg_grows (P := P) w t o.type 5 i (.int .u8 0) 1 1 ht hi hz hsize hby rfl (by decide) ⟨g, 0, none⟩ k k (cellsU8 zs) (by simp [cellsU8, hl]) (fun j u hj => by
      rw [WideShapes.add_plain, Nat.zero_add]
      obtain ⟨b', off', e, _, hc⟩ := hsee.out j u hj
      injection e with e
      injection e with e1 e2
      subst e1 e2
      rwa [Nat.zero_add] at hc) ad m c (cellsU8 bs) (by simp [cellsU8, hbs.out.len]) hsrc (by omega) (by unfold maxLen; omega) (by omega)
    unfold Oper.wp
    simp [execOp, ho, resolve, invoke, builtin, hs, hx, hrun, Result.andThen]
    exact h v' w' (.inl (by rw [cellsU8_app]; exact r1)) ((Below.refl _ _).grown r2 (Nat.le_refl _) (fun k hk => by cases hk))
/-- append of some bytes behind those. -/
theorem wp_append_ext {P : Program} {w : World} {o : Oper} {a : Act} {K : Act → World → Prop} {Q : Exit → Act → World → Prop} (s x : Operand) (t : TypeId)
    (ho : o.op = .call { callee := .builtin .append, args := #[s, x], argTypes := #[t, t] })
    (i : TypeInfo) (ht : P.underlying t = some (.slice 5)) (hi : P.info? 5 = some i) (hz : i.zero = some (.int .u8 0)) (hsize : i.size = 1) (hby : i.bytes = 1)
    (base n : Nat) (v : Value) (zs : List Int) (hs : a.eval s = v) (hE : Hid (Ext base w v n zs)) (hb : base ≤ w.heap.size) (hn : n ≤ 1048580)
    (g m c : Nat) (bs : List Int) (hx : a.eval x = .slice (some ⟨g, 0, none⟩) m c) (hl : bs.length = m) (hm : 1 ≤ m ∧ m ≤ 100) (hc : Hid (∀ j u, (cellsU8 bs)[j]? = some u → w.cell? ⟨g, j, none⟩ = some u))
    (h : ∀ v' w', w'.ownsRow base 5 1 v' (n + m) (cellsU8 (zs ++ bs)) → Below base w w' → K (a.put o.dst v') w') : o.wp P a w K Q := by
  have hc' : ∀ j u, (cellsU8 bs)[j]? = some u → w.cell? ((⟨g, 0, none⟩ : Addr).add j) = some u := fun j u hu => by rw [WideShapes.add_plain, Nat.zero_add]; exact hc.out j u hu
  have hlc : (cellsU8 bs).length = m * 1 := by simp [cellsU8, hl]
  rcases hE.out with ho' | ⟨g', B, rfl, hB, hzl, hsee⟩
  · refine wp_append_own w s x t ho base 5 i (.int .u8 0) 1 1 ht hi hz hsize hby rfl (by decide) v n (cellsU8 zs) hs ho' ⟨g, 0, none⟩ m c (cellsU8 bs) hx hlc hc' (one_u8 bs) (by unfold maxLen; omega) (by omega) hb fun v' w' h2 h3 _ => h v' w' (by rw [cellsU8_app]; exact h2) ?_
    exact (Below.refl base w).grown h3 hb (fun k hk => (ho'.lt k hk).1)
  · obtain ⟨v', w', hrun, r1, r2⟩ := run_append_arg_grows (P := P) w t o.type 5 i (.int .u8 0) 1 1 ht hi hz hsize hby rfl (by decide) ⟨g', 0, none⟩ n n (cellsU8 zs) (by simp [cellsU8, hzl]) (fun j u hj => by
      rw [WideShapes.add_plain, Nat.zero_add]
      obtain ⟨b', off', e, _, hcc⟩ := hsee j u hj
      injection e with e
      injection e with e1 e2
      subst e1 e2
      rwa [Nat.zero_add] at hcc) ⟨g, 0, none⟩ m c (cellsU8 bs) hlc hc' (by omega) (by unfold maxLen; omega) (by omega)
    unfold Oper.wp
    simp [execOp, ho, resolve, invoke, builtin, hs, hx, hrun, Result.andThen]
    exact h v' w' (by rw [cellsU8_app]; exact own_less r1 hb) ((Below.refl base w).grown r2 hb (fun k hk => by cases hk))
theorem wpList_append_lit {P : Program} {w : World} {ops : Array Oper} {rest : List Oper} {o : Oper} {a : Act} {Q : Exit → Act → World → Prop} (hgd : o.guard = none) (s x : Operand) (t : TypeId)
    (ho : o.op = .call { callee := .builtin .append, args := #[s, x], argTypes := #[t, t] })
    (i : TypeInfo) (ht : P.underlying t = some (.slice 5)) (hi : P.info? 5 = some i) (hz : i.zero = some (.int .u8 0)) (hsize : i.size = 1) (hby : i.bytes = 1)
    (g k : Nat) (zs : List Int) (B : Nat) (hs : a.eval s = .slice (some ⟨g, 0, none⟩) k k) (hB : B ≤ w.heap.size) (hl : zs.length = k) (hsee : Hid (Sees w B (some ⟨g, 0, none⟩) (cellsU8 zs))) (hk : k ≤ 100)
    (A : Option Addr) (m c : Nat) (bs : List Int) (hx : a.eval x = .slice A m c) (hbs : Hid (BsAt w w.heap.size A m c bs)) (hm : m ≤ 1048576)
    (h : ∀ v' w', Ext w.heap.size w' v' (k + m) (zs ++ bs) → Below w.heap.size w w' → wpList P ops Q rest (a.put o.dst v') w') : wpList P ops Q (o :: rest) a w :=
  wpList_plain hgd fun _ hK => wp_append_lit s x t ho i ht hi hz hsize hby g k zs B hs hB hl hsee hk A m c bs hx hbs hm fun v' w' h2 h3 => hK _ _ (h v' w' h2 h3)
theorem wpList_append_ext {P : Program} {w : World} {ops : Array Oper} {rest : List Oper} {o : Oper} {a : Act} {Q : Exit → Act → World → Prop} (hgd : o.guard = none) (s x : Operand) (t : TypeId)
    (ho : o.op = .call { callee := .builtin .append, args := #[s, x], argTypes := #[t, t] })
    (i : TypeInfo) (ht : P.underlying t = some (.slice 5)) (hi : P.info? 5 = some i) (hz : i.zero = some (.int .u8 0)) (hsize : i.size = 1) (hby : i.bytes = 1)
    (base n : Nat) (v : Value) (zs : List Int) (hs : a.eval s = v) (hE : Hid (Ext base w v n zs)) (hb : base ≤ w.heap.size) (hn : n ≤ 1048580)
    (g m c : Nat) (bs : List Int) (hx : a.eval x = .slice (some ⟨g, 0, none⟩) m c) (hl : bs.length = m) (hm : 1 ≤ m ∧ m ≤ 100) (hc : Hid (∀ j u, (cellsU8 bs)[j]? = some u → w.cell? ⟨g, j, none⟩ = some u))
    (h : ∀ v' w', w'.ownsRow base 5 1 v' (n + m) (cellsU8 (zs ++ bs)) → Below base w w' → wpList P ops Q rest (a.put o.dst v') w') : wpList P ops Q (o :: rest) a w :=
  wpList_plain hgd fun _ hK => wp_append_ext s x t ho i ht hi hz hsize hby base n v zs hs hE hb hn g m c bs hx hl hm hc fun v' w' h2 h3 => hK _ _ (h v' w' h2 h3)
end Go.Proofs.YtlkcjjalkdlicaaDoor
end

section
/-
  The contract of spillframeref01.SameBytes at two slices that hold the same bytes: it returns true and only reads. Condition: fewer than 2^62 bytes.
-/
namespace Go.Proofs.YtlkcjjalkdlicaaDoor
open Go.RowKit

set_option maxHeartbeats 400000 in
theorem same_any (A A' : Option Addr) (n c n' c' : Nat) (zs : List Int) (B : Nat) (w : World) (hn : Hid (zs.length = n)) (hn' : Hid (n' = n)) (hm : n ≤ 4611686018427387904)
    (h : Sees w B A (cellsU8 zs)) (h' : Sees w B A' (cellsU8 zs)) :
    Calls Tryd.prog 20 #[.slice A n c, .slice A' n' c'] w fun e w' => e = .returned (.bool true) ∧ ∃ k, w' = w.drewN k := by
  obtain rfl := hn'.out
  clear hn'
  go_enter Tryd.func20, Tryd.ntmps20
  go_wp2
  go_loopw [5] (fun i wr => ∃ k : Nat, k ≤ n' ∧ i = .int .i64 k ∧ ∃ m, wr = w.drewN m) (fun i _ => n' - (intOf i).toNat)
  case atStart => exact ⟨0, Nat.zero_le _, rfl, 0, rfl⟩
  case round =>
    obtain ⟨k, hk, rfl, m, rfl⟩ := hrel
    by_cases hlt : k < n'
    · obtain ⟨b, off, rfl, _, hc⟩ := h k _ (get_u8 (by have := hn.out; omega))
      obtain ⟨b', off', rfl, _, hc'⟩ := h' k _ (get_u8 (by have := hn.out; omega))
      clear h h'
      go_wp2
      go_quiet (fail)
      go_wp2
      go_roundw
      case rel => exact ⟨k + 1, by omega, by go_num, _, rfl⟩
      case measure => simp [intOf]; omega
    · clear h h'
      go_wp2
      go_ret
      exact ⟨rfl, m, rfl⟩
end Go.Proofs.YtlkcjjalkdlicaaDoor
end
