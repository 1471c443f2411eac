import Derived.Test.YtafegghdhdgioabGreatMMfro
import Derived.Test.YtafegghdhdgioabGreatMMrw
import Derived.Test.YtafegghdhdgioabGreatMNce
import Derived.Test.YtafegghdhdgioabGreatMBx
import Derived.Deep.DeepCutAuto
import Derived.Deep.QuietTactic
import Derived.BigQuiet
import Derived.Outline
set_option linter.unusedVariables false
set_option linter.unusedSimpArgs false
section
/-
  The contract of mach.CheckFrame at a frame that there is: its first error. Conditions: those of the types.
-/
namespace Go.Proofs.YtafegghdhdgioabGreat
open Go.RowKit

theorem fmE_shape {Al : Int} {N : Nat} {f : Fm} (h : shB Al f = false) : fmE Al N f = 4 := by unfold fmE; rw [if_pos h]
theorem fmE_long {Al : Int} {N : Nat} {f : Fm} (h : shB Al f = true) (h2 : 1024 < f.code.length) : fmE Al N f = 3 := by unfold fmE; rw [if_neg (by simp [h]), if_pos h2]
theorem fmE_instr {Al : Int} {N : Nat} {f : Fm} {k : Nat} {e : Int} (h : shB Al f = true) (h2 : f.code.length ≤ 1024) (hk : k < f.code.length) (he : minsE N f f.code[k] = e) (h0 : e ≠ 0) (hb : ∀ j (hj : j < f.code.length), j < k → minsE N f f.code[j] = 0) : fmE Al N f = e := by
  have hf : firstE (f.code.map (minsE N f)) = e := firstE_hit (k := k) (by rw [List.getElem?_map, List.getElem?_eq_getElem hk]; simp [he]) h0 fun j hj => by
    have hl : j < f.code.length := by omega
    rw [List.getElem?_map, List.getElem?_eq_getElem hl]; simp [hb j hl hj]
  unfold fmE
  rw [if_neg (by simp [h]), if_neg (by omega), if_pos (by rw [hf]; exact h0), hf]
theorem fmE_end {Al : Int} {N : Nat} {f : Fm} (h : shB Al f = true) (h2 : f.code.length ≤ 1024) (hb : ∀ j (hj : j < f.code.length), minsE N f f.code[j] = 0) : fmE Al N f = if closedB f.code = false then 6 else 0 := by
  have hf : firstE (f.code.map (minsE N f)) = 0 := firstE_zero.2 fun e he => by
    obtain ⟨x, hx, rfl⟩ := List.mem_map.1 he
    obtain ⟨j, hj, rfl⟩ := List.mem_iff_getElem.1 hx
    exact hb j hj
  unfold fmE
  rw [if_neg (by simp [h]), if_neg (by omega), if_neg (by simpa using hf)]
theorem shB_b {Al : Int} {f : Fm} (h : shB Al f = true) : (0 ≤ f.params ∧ f.params ≤ 8) ∧ (0 ≤ f.size ∧ f.size ≤ 2147483519) := by
  unfold shB at h
  simp only [Bool.and_eq_true] at h
  have h1 := withB_true.1 h.2.1
  have h2 := withB_true.1 h.2.2.1
  omega

set_option maxHeartbeats 2000000 in
theorem chkfm_any (Al : Int) (A : Option Addr) (n c : Nat) (hs : List Fd) (F : Tg) (lo B i : Nat) (f : Fm) (w : World) (H : Hid (TgAt w lo B A n c hs F)) (hB : B ≤ w.heap.size) (hf : Hid (F[i]? = some f)) :
    Calls Tryz.prog 42 #[tv Al A n c, .int .i64 (i : Int)] w fun e w' => e = .returned (.int .i64 (fmE Al n f)) ∧ Below w.heap.size w w' := by
  have hin : i < n := by rw [← H.out.len]; exact (List.getElem?_eq_some_iff.1 hf.out).1
  obtain ⟨b, off, P, S, A1, n1, c1, f', rfl, hb, e1, hh, h, -, -, -⟩ := fm_at H.out hin
  obtain rfl : f' = f := by rw [hf.out] at e1; injection e1 with e1; exact e1.symm
  clear e1
  have ho := fun W (hb : Below w.heap.size w W) => frameof_any Al (some ⟨b, off, none⟩) n c hs F lo B i P S A1 n1 c1 f' W (hide (H.out.below (hb.mono hB))) (Nat.le_trans hB hb.size) hf (hide hh)
  have HO := hide ho
  have hP : P = f'.params := h.p
  have hS : S = f'.size := h.s
  have hL : f'.code.length = n1 := h.l
  have HL := hide hL
  have HP := hide hP
  have HS := hide hS
  have HC := hide h.c
  have hn1 : n1 ≤ 8796093022208 := h.k.2.2
  have R0 := Row.new w 26 [.int .i64 Al, .slice (some ⟨b, off, none⟩) n c]
  have hb1 := below1 w (.cells #[.int .i64 Al, .slice (some ⟨b, off, none⟩) n c] 26)
  obtain ⟨W1, hW1⟩ : ∃ V, w.alloc (.cells #[.int .i64 Al, .slice (some ⟨b, off, none⟩) n c] 26) = V := ⟨_, rfl⟩
  rw [show ([.int .i64 Al, .slice (some ⟨b, off, none⟩) n c] : List Value).toArray = #[.int .i64 Al, .slice (some ⟨b, off, none⟩) n c] from rfl, hW1] at R0
  rw [hW1] at hb1
  have co := HO.out W1 hb1
  have HW1 := hide hW1
  have HB1 := hide hb1
  have t0 := R0.cell (k := 0) rfl
  have t1 := R0.cell (k := 1) rfl
  clear ho hP hS hL h hh hW1 hb1 R0 HO
  cases hsh : shB Al f' with
  | false =>
    rw [hsh] at co
    have HR := hide (fmE_shape (N := n) hsh)
    clear hsh
    go_enter Tryz.func42, Tryz.ntmps42
    go_upto_region 1 with (fail)
    rw [HW1.out]
    clear HW1
    go_wp2_with fail
    refine co.mono ?_
    rintro e w2 ⟨rfl, hb2⟩
    have HB2 := hide (below_call HB1.out hb2)
    clear hb2 t0 t1
    go_wp2_with fail
    go_ret
    exact ⟨ret_int HR.out.symm, HB2.out.alloc HB2.out.size _⟩
  | true =>
    have hbs := shB_b hsh
    rw [← HP.out, ← HS.out] at hbs
    rw [hsh] at co
    by_cases hlong : 1024 < n1
    · have HR := hide (fmE_long (N := n) hsh (by rw [HL.out]; exact hlong))
      have hz : (1024 : Int) < (n1 : Int) := by omega
      clear hsh
      go_enter Tryz.func42, Tryz.ntmps42
      go_upto_region 1 with (fail)
      rw [HW1.out]
      clear HW1
      go_wp2_with fail
      refine co.mono ?_
      rintro e w2 ⟨rfl, hb2⟩
      have HB2 := hide (below_call HB1.out hb2)
      clear hb2 t0 t1
      go_wp2_with fail
      go_ret
      exact ⟨ret_int HR.out.symm, HB2.out.alloc HB2.out.size _⟩
    · have hz : (n1 : Int) ≤ 1024 := by omega
      have hz' : ¬ (1024 : Int) < (n1 : Int) := by omega
      have HIN := hide (fun (k : Nat) (e : Int) hk he h0 hb => fmE_instr (N := n) (k := k) (e := e) hsh (by rw [HL.out]; omega) hk he h0 hb)
      have HEN := hide (fun hb => fmE_end (N := n) hsh (by rw [HL.out]; omega) hb)
      clear hsh
      go_enter Tryz.func42, Tryz.ntmps42
      go_upto_region 1 with (fail)
      rw [HW1.out]
      clear HW1
      go_upto_region 2 with (go_at_call 61; refine co.mono ?_; rintro e w2 ⟨rfl, hb2⟩)
      obtain ⟨W3, hW3⟩ : ∃ V, w2.alloc (.cells #[.int .i64 P, .int .i64 S, .slice A1 n1 c1, .int .i64 (n : Int)] 131) = V := ⟨_, rfl⟩
      have R3 := hide (show Row W3 w2.heap.size 131 [.int .i64 P, .int .i64 S, .slice A1 n1 c1, .int .i64 (n : Int)] by rw [← hW3]; exact Row.new w2 _ _)
      have HB3 := hide (show Below w.heap.size w W3 by rw [← hW3]; have h := below_call HB1.out hb2; exact h.alloc h.size _)
      rw [hW3]
      obtain ⟨g, hg⟩ : ∃ g, w2.heap.size = g := ⟨_, rfl⟩
      rw [hg] at R3 ⊢
      clear hW3 hg hb2 co t0 t1 HB1
      have x2 := R3.out.cell (k := 2) rfl
      go_wp2_with fail
      clear x2
      go_loopw [29] (fun s wr => ∃ k : Nat, k ≤ n1 ∧ s = .int .i64 k ∧ Hid (∀ j (hj : j < f'.code.length), j < k → minsE n f' f'.code[j] = 0) ∧ Hid (Below W3.heap.size W3 wr)) (fun s _ => n1 - (intOf s).toNat)
      case atStart => exact ⟨0, by omega, rfl, hide (fun j hj h => by omega), hide (Below.refl _ _)⟩
      case round =>
        obtain ⟨k, hk, rfl, hno, hbr⟩ := hrel
        have R4 := hide (R3.out.call hbr.out)
        have HB4 := hide (HB3.out.trans (hbr.out.mono HB3.out.size))
        by_cases hlt : k < n1
        · have hkl : k < f'.code.length := by have := HL.out; omega
          obtain ⟨bb, oo, rfl, hbb, x0, x1, x2, x3, x4⟩ := ins_at (HC.out.below (HB4.out.mono hB)) hkl
          have HIT := hide (fun h0 : minsE n f' f'.code[k] ≠ 0 => HIN.out k _ hkl rfl h0 hno.out)
          obtain ⟨x, hx⟩ : ∃ x, f'.code[k] = x := ⟨_, rfl⟩
          have HX := hide hx
          rw [hx] at HIT x0 x1 x2 x3 x4
          obtain ⟨o, a, b, d, m⟩ := x
          simp only at x0 x1 x2 x3 x4
          have hkz : (0 : Int) ≤ (k : Int) := by omega
          have hkz' : (k : Int) < (n1 : Int) := by omega
          clear hx
          go_upto_region 9 with (fail)
          obtain ⟨W5, hW5⟩ : ∃ V, wr.alloc (.cells #[.int .i64 o, .int .i64 a, .int .i64 b, .int .i64 d, .int .u64 m] 52) = V := ⟨_, rfl⟩
          have R5 := hide (show Row W5 g 131 [.int .i64 P, .int .i64 S, .slice (some ⟨bb, oo, none⟩) n1 c1, .int .i64 (n : Int)] by rw [← hW5]; exact R4.out.alloc _)
          have Z5 := hide (show Row W5 wr.heap.size 52 [.int .i64 o, .int .i64 a, .int .i64 b, .int .i64 d, .int .u64 m] by rw [← hW5]; exact Row.new wr _ _)
          have HB5 := hide (show Below W3.heap.size W3 W5 by rw [← hW5]; exact hbr.out.alloc hbr.out.size _)
          rw [hW5]
          obtain ⟨g2, hg2⟩ : ∃ g, wr.heap.size = g := ⟨_, rfl⟩
          rw [hg2] at Z5 ⊢
          clear hW5 hg2 x0 x1 x2 x3 x4 R4
          have f0 := R5.out.cell (k := 0) rfl
          have f1 := R5.out.cell (k := 1) rfl
          have f2 := R5.out.cell (k := 2) rfl
          have f3 := R5.out.cell (k := 3) rfl
          have x0 := Z5.out.cell (k := 0) rfl
          have x1 := Z5.out.cell (k := 1) rfl
          have x2 := Z5.out.cell (k := 2) rfl
          have x3 := Z5.out.cell (k := 3) rfl
          have x4 := Z5.out.cell (k := 4) rfl
          have ci := chkinsm_any P S (some ⟨bb, oo, none⟩) n1 c1 n o a b d m W5 f' (hide ⟨HP.out.symm, HS.out.symm, HL.out⟩) hbs.1 hbs.2
          obtain ⟨ie, hie⟩ : ∃ ie, minsE n f' ⟨o, a, b, d, m⟩ = ie := ⟨_, rfl⟩
          rw [hie] at ci HIT
          have HIE := hide hie
          clear hie
          by_cases h0 : ie = 0
          · subst h0
            go_wp2_with fail
            refine ci.mono ?_
            rintro e w2 ⟨rfl, hb2⟩
            have HB2 := hide (below_call HB5.out hb2)
            clear hb2 f0 f1 f2 f3 x0 x1 x2 x3 x4
            go_wp2_with fail
            go_roundw
            case rel =>
              refine ⟨k + 1, by omega, by go_num, hide fun j hj hjk => ?_, HB2⟩
              by_cases e : j = k
              · subst e; rw [HX.out]; exact HIE.out
              · exact hno.out j hj (by omega)
            case measure => simp [intOf]; omega
          · have hne : (ie != 0) = true := by rw [bne_iff_ne]; exact h0
            have HR' := hide (HIT.out h0)
            clear HIT h0
            go_wp2_with fail
            refine ci.mono ?_
            rintro e w2 ⟨rfl, hb2⟩
            have HB2 := hide (HB3.out.trans ((below_call HB5.out hb2).mono HB3.out.size))
            clear hb2 f0 f1 f2 f3 x0 x1 x2 x3 x4
            go_wp2_with fail
            go_ret
            exact ⟨ret_int HR'.out.symm, HB2.out⟩
        · obtain rfl : k = n1 := by omega
          have HE := hide (HEN.out (fun j hj => hno.out j hj (by have := HL.out; omega)))
          have f0 := R4.out.cell (k := 0) rfl
          have f1 := R4.out.cell (k := 1) rfl
          have f2 := R4.out.cell (k := 2) rfl
          have f3 := R4.out.cell (k := 3) rfl
          have cc := mclosed_any P S A1 k c1 n f'.code B wr HL (by omega) (hide (HC.out.below (HB4.out.mono hB))) (Nat.le_trans hB HB4.out.size)
          obtain ⟨cl, hcl⟩ : ∃ v, closedB f'.code = v := ⟨_, rfl⟩
          rw [hcl] at cc HE
          clear hcl
          cases cl with
          | false =>
            go_wp2_with fail
            refine cc.mono ?_
            rintro e w2 ⟨rfl, hb2⟩
            have HB2 := hide (below_call HB4.out hb2)
            clear hb2
            go_wp2_with fail
            go_ret
            exact ⟨ret_int HE.out.symm, HB2.out⟩
          | true =>
            go_wp2_with fail
            refine cc.mono ?_
            rintro e w2 ⟨rfl, hb2⟩
            have HB2 := hide (below_call HB4.out hb2)
            clear hb2
            go_wp2_with fail
            go_ret
            exact ⟨ret_int HE.out.symm, HB2.out⟩
end Go.Proofs.YtafegghdhdgioabGreat
end

section
/-
  The contract of mach.passesArguments at a frame that there is: whether it has room for the parameters of what it calls. Conditions: each Call names a frame, and each frame has at most 8 parameters.
-/
namespace Go.Proofs.YtafegghdhdgioabGreat
open Go.RowKit

theorem roomB_no {F : Tg} {f : Fm} {k : Nat} (hk : k < f.code.length) (h : callB F f f.code[k] = false) : roomB F f = false := by
  unfold roomB
  rw [List.all_eq_false]
  exact ⟨_, List.getElem_mem hk, by simp [h]⟩
theorem roomB_yes {F : Tg} {f : Fm} (h : ∀ j (hj : j < f.code.length), callB F f f.code[j] = true) : roomB F f = true := by
  unfold roomB
  rw [List.all_eq_true]
  intro x hx
  obtain ⟨j, hj, rfl⟩ := List.mem_iff_getElem.1 hx
  exact h j hj
theorem callB_other {F : Tg} {f : Fm} {x : Ins} (h : x.op ≠ 22) : callB F f x = true := by unfold callB; rw [decide_eq_false h]; rfl
theorem callB_at {F : Tg} {f g : Fm} {x : Ins} {j : Nat} (h : x.op = 22) (ha : x.a = (j : Int)) (hg : F[j]? = some g) : callB F f x = decide (16 * g.params ≤ f.size) := by
  unfold callB
  rw [decide_eq_true h, ha, Int.toNat_natCast, hg]
  simp only [Option.map_some, Option.getD_some, Bool.true_and]
  rw [← decide_not]
  exact decide_eq_decide.2 (by omega)

set_option maxHeartbeats 2000000 in
theorem passes_any (Al : Int) (A : Option Addr) (n c : Nat) (hs : List Fd) (F : Tg) (lo B i : Nat) (f : Fm) (w : World) (H : Hid (TgAt w lo B A n c hs F)) (hB : B ≤ w.heap.size) (hf : Hid (F[i]? = some f))
    (hcall : Hid (∀ x ∈ f.code, x.op = 22 → 0 ≤ x.a ∧ x.a < n)) (hpar : Hid (∀ g ∈ F, 0 ≤ g.params ∧ g.params ≤ 8)) :
    Calls Tryz.prog 43 #[tv Al A n c, .int .i64 (i : Int)] w fun e w' => e = .returned (.bool (roomB F f)) ∧ Below w.heap.size w w' := by
  have hin : i < n := by rw [← H.out.len]; exact (List.getElem?_eq_some_iff.1 hf.out).1
  obtain ⟨b, off, P, S, A1, n1, c1, f', rfl, hb, e1, hh, h, p0, p1, p2⟩ := fm_at H.out hin
  obtain rfl : f' = f := by rw [hf.out] at e1; injection e1 with e1; exact e1.symm
  clear e1
  have hn := H.out.cap.2.2
  have HL := hide (show f'.code.length = n1 from h.l)
  have HS := hide (show S = f'.size from h.s)
  have HC := hide h.c
  have hn1 : n1 ≤ 8796093022208 := h.k.2.2
  have R0 := Row.new w 26 [.int .i64 Al, .slice (some ⟨b, off, none⟩) n c]
  have hb1 := below1 w (.cells #[.int .i64 Al, .slice (some ⟨b, off, none⟩) n c] 26)
  obtain ⟨W1, hW1⟩ : ∃ V, w.alloc (.cells #[.int .i64 Al, .slice (some ⟨b, off, none⟩) n c] 26) = V := ⟨_, rfl⟩
  rw [show ([.int .i64 Al, .slice (some ⟨b, off, none⟩) n c] : List Value).toArray = #[.int .i64 Al, .slice (some ⟨b, off, none⟩) n c] from rfl, hW1] at R0
  rw [hW1] at hb1
  have hbw : b < w.heap.size := by omega
  have q0 := (hb1.cell (p := ⟨b, off + i * 3, none⟩) hbw).trans p0
  have q1 := (hb1.cell (p := ⟨b, off + i * 3 + 1, none⟩) hbw).trans p1
  have q2 := (hb1.cell (p := ⟨b, off + i * 3 + 2, none⟩) hbw).trans p2
  have hs1 : w.heap.size + 1 = W1.heap.size := by rw [← hW1]; simp
  have HW1 := hide hW1
  have HB1 := hide hb1
  have HR0 := hide R0
  have t1 := R0.cell (k := 1) rfl
  have hiz : (0 : Int) ≤ (i : Int) := by omega
  have hiz' : (i : Int) < (n : Int) := by omega
  clear h hh hW1 hb1 R0 p0 p1 p2
  go_enter Tryz.func43, Tryz.ntmps43
  go_upto_region 1 with (fail)
  rw [HW1.out]
  clear HW1
  go_upto_region 2 with (fail)
  obtain ⟨W3, hW3⟩ : ∃ V, W1.alloc (.cells #[.int .i64 P, .int .i64 S, .slice A1 n1 c1] 55) = V := ⟨_, rfl⟩
  have R3 := hide (show Row W3 W1.heap.size 55 [.int .i64 P, .int .i64 S, .slice A1 n1 c1] by rw [← hW3]; exact Row.new W1 _ _)
  have T3 := hide (show Row W3 w.heap.size 26 [.int .i64 Al, .slice (some ⟨b, off, none⟩) n c] by rw [← hW3]; exact HR0.out.alloc _)
  have HB3 := hide (show Below w.heap.size w W3 by rw [← hW3]; exact HB1.out.alloc HB1.out.size _)
  rw [hW3]
  obtain ⟨g, hg⟩ : ∃ g, W1.heap.size = g := ⟨_, rfl⟩
  rw [hg] at R3 ⊢
  clear hW3 hg t1 q0 q1 q2 HB1 HR0 hs1
  have x2 := R3.out.cell (k := 2) rfl
  go_wp2_with fail
  clear x2
  go_loopw [16] (fun s wr => ∃ k : Nat, k ≤ n1 ∧ s = .int .i64 k ∧ Hid (∀ j (hj : j < f'.code.length), j < k → callB F f' f'.code[j] = true) ∧ Hid (Below W3.heap.size W3 wr)) (fun s _ => n1 - (intOf s).toNat)
  case atStart => exact ⟨0, by omega, rfl, hide (fun j hj h => by omega), hide (Below.refl _ _)⟩
  case round =>
    obtain ⟨k, hk, rfl, hno, hbr⟩ := hrel
    by_cases hlt : k < n1
    · have HB4 := hide (HB3.out.trans (hbr.out.mono HB3.out.size))
      have R4 := hide (R3.out.call hbr.out)
      have T4 := hide (T3.out.call hbr.out)
      have hkl : k < f'.code.length := by have := HL.out; omega
      obtain ⟨bb, oo, rfl, hbb, x0, x1, x2, x3, x4⟩ := ins_at (HC.out.below (HB4.out.mono hB)) hkl
      have HNO := hide (fun (h : callB F f' f'.code[k] = false) => roomB_no hkl h)
      have HCA := hide (hcall.out _ (List.getElem_mem hkl))
      obtain ⟨x, hx⟩ : ∃ x, f'.code[k] = x := ⟨_, rfl⟩
      have HX := hide hx
      rw [hx] at HNO HCA x0 x1 x2 x3 x4
      obtain ⟨o, a, b', d, m⟩ := x
      simp only at x0 x1 x2 x3 x4
      have hkz : (0 : Int) ≤ (k : Int) := by omega
      have hkz' : (k : Int) < (n1 : Int) := by omega
      clear hx
      go_upto_region 5 with (fail)
      obtain ⟨W5, hW5⟩ : ∃ V, wr.alloc (.cells #[.int .i64 o, .int .i64 a, .int .i64 b', .int .i64 d, .int .u64 m] 52) = V := ⟨_, rfl⟩
      have R5 := hide (show Row W5 g 55 [.int .i64 P, .int .i64 S, .slice (some ⟨bb, oo, none⟩) n1 c1] by rw [← hW5]; exact R4.out.alloc _)
      have T5 := hide (show Row W5 w.heap.size 26 [.int .i64 Al, .slice (some ⟨b, off, none⟩) n c] by rw [← hW5]; exact T4.out.alloc _)
      have Z5 := hide (show Row W5 wr.heap.size 52 [.int .i64 o, .int .i64 a, .int .i64 b', .int .i64 d, .int .u64 m] by rw [← hW5]; exact Row.new wr _ _)
      have HB5 := hide (show Below W3.heap.size W3 W5 by rw [← hW5]; exact hbr.out.alloc hbr.out.size _)
      rw [hW5]
      obtain ⟨g2, hg2⟩ : ∃ g, wr.heap.size = g := ⟨_, rfl⟩
      rw [hg2] at Z5 ⊢
      clear hW5 hg2 x0 x1 x2 x3 x4 R4 T4
      have HBW := hide (HB3.out.trans (HB5.out.mono HB3.out.size))
      have f1 := R5.out.cell (k := 1) rfl
      have t1 := T5.out.cell (k := 1) rfl
      have z0 := Z5.out.cell (k := 0) rfl
      have z1 := Z5.out.cell (k := 1) rfl
      by_cases h22 : o = 22
      · subst h22
        obtain ⟨a0, a1⟩ := HCA.out rfl
        simp only at a0 a1
        obtain ⟨j, rfl⟩ := Int.eq_ofNat_of_zero_le a0
        obtain ⟨b2, o2, P2, S2, A2, n2, c2, f2, e, -, hf2, -, hd2, y0, -, -⟩ := fm_at (H.out.below (HBW.out.mono hB)) (k := j) (by omega)
        injection e with e
        injection e with e1 e2
        subst e1 e2
        have hP2 : P2 = f2.params := hd2.p
        obtain ⟨P20, P21⟩ := hpar.out f2 (List.mem_of_getElem? hf2)
        rw [← hP2] at P20 P21
        have HCB := hide (show callB F f' ⟨22, (j : Int), b', d, m⟩ = decide (16 * P2 ≤ S) by rw [callB_at rfl rfl hf2, ← hP2, HS.out])
        have e16 : IntKind.i64.wrap (16 * P2) = 16 * P2 := wrap_i64 _ (by omega) (by omega)
        clear hf2 hd2 hP2
        by_cases hgt : S < 16 * P2
        · have hd : decide (S < 16 * P2) = true := decide_eq_true hgt
          have HR := hide (HNO.out (by rw [HCB.out]; exact decide_eq_false (by omega)))
          go_quiet (fail)
          go_wp2_with fail
          go_ret
          exact ⟨ret_bool HR.out.symm, drewN_below HBW.out _⟩
        · have hd : decide (S < 16 * P2) = false := decide_eq_false hgt
          have HT := hide (show callB F f' ⟨22, (j : Int), b', d, m⟩ = true by rw [HCB.out]; exact decide_eq_true (by omega))
          go_quiet (fail)
          go_wp2_with fail
          go_roundw
          case rel =>
            refine ⟨k + 1, by omega, by go_num, hide fun q hq hqk => ?_, hide (drewN_below HB5.out _)⟩
            by_cases e : q = k
            · subst e; rw [HX.out]; exact HT.out
            · exact hno.out q hq (by omega)
          case measure => simp [intOf]; omega
      · have hne : (o == 22) = false := by simpa using h22
        have HT := hide (callB_other (F := F) (f := f') (x := ⟨o, a, b', d, m⟩) h22)
        clear h22
        go_quiet (fail)
        go_wp2_with fail
        go_roundw
        case rel =>
          refine ⟨k + 1, by omega, by go_num, hide fun q hq hqk => ?_, hide (drewN_below HB5.out _)⟩
          by_cases e : q = k
          · subst e; rw [HX.out]; exact HT.out
          · exact hno.out q hq (by omega)
        case measure => simp [intOf]; omega
    · obtain rfl : k = n1 := by omega
      have HE := hide (roomB_yes (F := F) (f := f') (fun j hj => hno.out j hj (by have := HL.out; omega)))
      go_wp2_with fail
      go_ret
      exact ⟨ret_bool HE.out.symm, HB3.out.trans (hbr.out.mono HB3.out.size)⟩
end Go.Proofs.YtafegghdhdgioabGreat
end
