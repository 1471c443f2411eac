import Derived.Test.YtlkcjjalkdlicaaDoorMQcor
import Derived.Deep.DeepCutAuto
import Derived.Deep.QuietTactic
import Derived.BigQuiet
import Derived.Outline
set_option linter.unusedVariables false
set_option linter.unusedSimpArgs false
section
/-
  The contract of mach.passesArguments at a frame that there is: whether it has room for the parameters of what it calls. Conditions: each Call names a frame, and each frame has at most 8 parameters.
-/
namespace Go.Proofs.YtlkcjjalkdlicaaDoor
open Go.RowKit

theorem roomB_no {F : Tg} {f : Fm} {k : Nat} (hk : k < f.code.length) (h : callB F f f.code[k] = false) : roomB F f = false := by
  unfold roomB
  rw [List.all_eq_false]
  exact ⟨_, List.getElem_mem hk, by simp [h]⟩
theorem roomB_yes {F : Tg} {f : Fm} (h : ∀ j (hj : j < f.code.length), callB F f f.code[j] = true) : roomB F f = true := by
  unfold roomB
  rw [List.all_eq_true]
  intro x hx
  obtain ⟨j, hj, rfl⟩ := List.mem_iff_getElem.1 hx
  exact h j hj
theorem callB_other {F : Tg} {f : Fm} {x : Ins} (h : x.op ≠ 22) : callB F f x = true := by unfold callB; rw [decide_eq_false h]; rfl
theorem callB_at {F : Tg} {f g : Fm} {x : Ins} {j : Nat} (h : x.op = 22) (ha : x.a = (j : Int)) (hg : F[j]? = some g) : callB F f x = decide (16 * g.params ≤ f.size) := by
  unfold callB
  rw [decide_eq_true h, ha, Int.toNat_natCast, hg]
  simp only [Option.map_some, Option.getD_some, Bool.true_and]
  rw [← decide_not]
  exact decide_eq_decide.2 (by omega)

set_option maxHeartbeats 2000000 in
theorem passes_any (Al : Int) (A : Option Addr) (n c : Nat) (hs : List Fd) (F : Tg) (lo B i : Nat) (f : Fm) (w : World) (H : Hid (TgAt w lo B A n c hs F)) (hB : B ≤ w.heap.size) (hf : Hid (F[i]? = some f))
    (hcall : Hid (∀ x ∈ f.code, x.op = 22 → 0 ≤ x.a ∧ x.a < n)) (hpar : Hid (∀ g ∈ F, 0 ≤ g.params ∧ g.params ≤ 8)) :
    Calls Tryd.prog 60 #[tv Al A n c, .int .i64 (i : Int)] w fun e w' => e = .returned (.bool (roomB F f)) ∧ Below w.heap.size w w' := by
  have hin : i < n := by rw [← H.out.len]; exact (List.getElem?_eq_some_iff.1 hf.out).1
  obtain ⟨b, off, P, S, A1, n1, c1, f', rfl, hb, e1, hh, h, p0, p1, p2⟩ := fm_at H.out hin
  obtain rfl : f' = f := by rw [hf.out] at e1; injection e1 with e1; exact e1.symm
  clear e1
  have hn := H.out.cap.2.2
  have HL := hide (show f'.code.length = n1 from h.l)
  have HS := hide (show S = f'.size from h.s)
  have HC := hide h.c
  have hn1 : n1 ≤ 8796093022208 := h.k.2.2
  have R0 := Row.new w 47 [.int .i64 Al, .slice (some ⟨b, off, none⟩) n c]
  have hb1 := below1 w (.cells #[.int .i64 Al, .slice (some ⟨b, off, none⟩) n c] 47)
  obtain ⟨W1, hW1⟩ : ∃ V, w.alloc (.cells #[.int .i64 Al, .slice (some ⟨b, off, none⟩) n c] 47) = V := ⟨_, rfl⟩
  rw [show ([.int .i64 Al, .slice (some ⟨b, off, none⟩) n c] : List Value).toArray = #[.int .i64 Al, .slice (some ⟨b, off, none⟩) n c] from rfl, hW1] at R0
  rw [hW1] at hb1
  have hbw : b < w.heap.size := by omega
  have q0 := (hb1.cell (p := ⟨b, off + i * 3, none⟩) hbw).trans p0
  have q1 := (hb1.cell (p := ⟨b, off + i * 3 + 1, none⟩) hbw).trans p1
  have q2 := (hb1.cell (p := ⟨b, off + i * 3 + 2, none⟩) hbw).trans p2
  have hs1 : w.heap.size + 1 = W1.heap.size := by rw [← hW1]; simp
  have HW1 := hide hW1
  have HB1 := hide hb1
  have HR0 := hide R0
  have t1 := R0.cell (k := 1) rfl
  have hiz : (0 : Int) ≤ (i : Int) := by omega
  have hiz' : (i : Int) < (n : Int) := by omega
  clear h hh hW1 hb1 R0 p0 p1 p2
  go_enter Tryd.func60, Tryd.ntmps60
  go_upto_region 1 with (fail)
  rw [HW1.out]
  clear HW1
  go_upto_region 2 with (fail)
  obtain ⟨W3, hW3⟩ : ∃ V, W1.alloc (.cells #[.int .i64 P, .int .i64 S, .slice A1 n1 c1] 83) = V := ⟨_, rfl⟩
  have R3 := hide (show Row W3 W1.heap.size 83 [.int .i64 P, .int .i64 S, .slice A1 n1 c1] by rw [← hW3]; exact Row.new W1 _ _)
  have T3 := hide (show Row W3 w.heap.size 47 [.int .i64 Al, .slice (some ⟨b, off, none⟩) n c] by rw [← hW3]; exact HR0.out.alloc _)
  have HB3 := hide (show Below w.heap.size w W3 by rw [← hW3]; exact HB1.out.alloc HB1.out.size _)
  rw [hW3]
  obtain ⟨g, hg⟩ : ∃ g, W1.heap.size = g := ⟨_, rfl⟩
  rw [hg] at R3 ⊢
  clear hW3 hg t1 q0 q1 q2 HB1 HR0 hs1
  have x2 := R3.out.cell (k := 2) rfl
  go_wp2_with fail
  clear x2
  go_loopw [16] (fun s wr => ∃ k : Nat, k ≤ n1 ∧ s = .int .i64 k ∧ Hid (∀ j (hj : j < f'.code.length), j < k → callB F f' f'.code[j] = true) ∧ Hid (Below W3.heap.size W3 wr)) (fun s _ => n1 - (intOf s).toNat)
  case atStart => exact ⟨0, by omega, rfl, hide (fun j hj h => by omega), hide (Below.refl _ _)⟩
  case round =>
    obtain ⟨k, hk, rfl, hno, hbr⟩ := hrel
    by_cases hlt : k < n1
    · have HB4 := hide (HB3.out.trans (hbr.out.mono HB3.out.size))
      have R4 := hide (R3.out.call hbr.out)
      have T4 := hide (T3.out.call hbr.out)
      have hkl : k < f'.code.length := by have := HL.out; omega
      obtain ⟨bb, oo, rfl, hbb, x0, x1, x2, x3, x4⟩ := ins_at (HC.out.below (HB4.out.mono hB)) hkl
      have HNO := hide (fun (h : callB F f' f'.code[k] = false) => roomB_no hkl h)
      have HCA := hide (hcall.out _ (List.getElem_mem hkl))
      obtain ⟨x, hx⟩ : ∃ x, f'.code[k] = x := ⟨_, rfl⟩
      have HX := hide hx
      rw [hx] at HNO HCA x0 x1 x2 x3 x4
      obtain ⟨o, a, b', d, m⟩ := x
      simp only at x0 x1 x2 x3 x4
      have hkz : (0 : Int) ≤ (k : Int) := by omega
      have hkz' : (k : Int) < (n1 : Int) := by omega
      clear hx
      go_upto_region 5 with (fail)
      obtain ⟨W5, hW5⟩ : ∃ V, wr.alloc (.cells #[.int .i64 o, .int .i64 a, .int .i64 b', .int .i64 d, .int .u64 m] 65) = V := ⟨_, rfl⟩
      have R5 := hide (show Row W5 g 83 [.int .i64 P, .int .i64 S, .slice (some ⟨bb, oo, none⟩) n1 c1] by rw [← hW5]; exact R4.out.alloc _)
      have T5 := hide (show Row W5 w.heap.size 47 [.int .i64 Al, .slice (some ⟨b, off, none⟩) n c] by rw [← hW5]; exact T4.out.alloc _)
      have Z5 := hide (show Row W5 wr.heap.size 65 [.int .i64 o, .int .i64 a, .int .i64 b', .int .i64 d, .int .u64 m] by rw [← hW5]; exact Row.new wr _ _)
      have HB5 := hide (show Below W3.heap.size W3 W5 by rw [← hW5]; exact hbr.out.alloc hbr.out.size _)
      rw [hW5]
      obtain ⟨g2, hg2⟩ : ∃ g, wr.heap.size = g := ⟨_, rfl⟩
      rw [hg2] at Z5 ⊢
      clear hW5 hg2 x0 x1 x2 x3 x4 R4 T4
      have HBW := hide (HB3.out.trans (HB5.out.mono HB3.out.size))
      have f1 := R5.out.cell (k := 1) rfl
      have t1 := T5.out.cell (k := 1) rfl
      have z0 := Z5.out.cell (k := 0) rfl
      have z1 := Z5.out.cell (k := 1) rfl
      by_cases h22 : o = 22
      · subst h22
        obtain ⟨a0, a1⟩ := HCA.out rfl
        simp only at a0 a1
        obtain ⟨j, rfl⟩ := Int.eq_ofNat_of_zero_le a0
        obtain ⟨b2, o2, P2, S2, A2, n2, c2, f2, e, -, hf2, -, hd2, y0, -, -⟩ := fm_at (H.out.below (HBW.out.mono hB)) (k := j) (by omega)
        injection e with e
        injection e with e1 e2
        subst e1 e2
        have hP2 : P2 = f2.params := hd2.p
        obtain ⟨P20, P21⟩ := hpar.out f2 (List.mem_of_getElem? hf2)
        rw [← hP2] at P20 P21
        have HCB := hide (show callB F f' ⟨22, (j : Int), b', d, m⟩ = decide (16 * P2 ≤ S) by rw [callB_at rfl rfl hf2, ← hP2, HS.out])
        have e16 : IntKind.i64.wrap (16 * P2) = 16 * P2 := wrap_i64 _ (by omega) (by omega)
        clear hf2 hd2 hP2
        by_cases hgt : S < 16 * P2
        · have hd : decide (S < 16 * P2) = true := decide_eq_true hgt
          have HR := hide (HNO.out (by rw [HCB.out]; exact decide_eq_false (by omega)))
          go_quiet (fail)
          go_wp2_with fail
          go_ret
          exact ⟨ret_bool HR.out.symm, drewN_below HBW.out _⟩
        · have hd : decide (S < 16 * P2) = false := decide_eq_false hgt
          have HT := hide (show callB F f' ⟨22, (j : Int), b', d, m⟩ = true by rw [HCB.out]; exact decide_eq_true (by omega))
          go_quiet (fail)
          go_wp2_with fail
          go_roundw
          case rel =>
            refine ⟨k + 1, by omega, by go_num, hide fun q hq hqk => ?_, hide (drewN_below HB5.out _)⟩
            by_cases e : q = k
            · subst e; rw [HX.out]; exact HT.out
            · exact hno.out q hq (by omega)
          case measure => simp [intOf]; omega
      · have hne : (o == 22) = false := by simpa using h22
        have HT := hide (callB_other (F := F) (f := f') (x := ⟨o, a, b', d, m⟩) h22)
        clear h22
        go_quiet (fail)
        go_wp2_with fail
        go_roundw
        case rel =>
          refine ⟨k + 1, by omega, by go_num, hide fun q hq hqk => ?_, hide (drewN_below HB5.out _)⟩
          by_cases e : q = k
          · subst e; rw [HX.out]; exact HT.out
          · exact hno.out q hq (by omega)
        case measure => simp [intOf]; omega
    · obtain rfl : k = n1 := by omega
      have HE := hide (roomB_yes (F := F) (f := f') (fun j hj => hno.out j hj (by have := HL.out; omega)))
      go_wp2_with fail
      go_ret
      exact ⟨ret_bool HE.out.symm, HB3.out.trans (hbr.out.mono HB3.out.size)⟩
end Go.Proofs.YtlkcjjalkdlicaaDoor
end

section
/-
  What a target without error keeps: its frames' bounds, that each instruction reads and writes where it may, that each caller has room. No function of the program is named here.
-/
namespace Go.Proofs.YtlkcjjalkdlicaaDoor
open Go.RowKit

theorem tgE_ok {Al : Int} {F : Tg} (h : tgE Al F = 0) : firstE (F.map (fmE Al F.length)) = 0 ∧ F.all (roomB F) = true := by
  unfold tgE at h
  by_cases h1 : 80 < F.length
  · rw [if_pos h1] at h; omega
  · rw [if_neg h1] at h
    cases F with
    | nil => simp at h
    | cons f r =>
      simp only at h
      by_cases h2 : powB Al = false ∨ Al < 16
      · rw [if_pos h2] at h; omega
      · rw [if_neg h2] at h
        by_cases h3 : f.params ≠ 0
        · rw [if_pos h3] at h; omega
        · rw [if_neg h3] at h
          by_cases h4 : firstE ((f :: r).map (fmE Al (f :: r).length)) ≠ 0
          · rw [if_pos h4] at h; exact absurd h h4
          · rw [if_neg h4] at h
            refine ⟨Decidable.not_not.1 h4, ?_⟩
            by_cases h5 : (f :: r).all (roomB (f :: r)) = true
            · exact h5
            · rw [if_neg h5] at h; omega
theorem mins_cov {N : Nat} {f : Fm} {x : Ins} (h : minsE N f x = 0) : covB f.params f.size x = true := by
  unfold minsE at h
  by_cases he : exB x.op = false
  · rw [if_pos he] at h; omega
  · rw [if_neg he] at h
    unfold mrank at h
    cases hc : covB f.params f.size x with
    | true => rfl
    | false =>
      exfalso
      rw [hc] at h
      revert h
      (repeat' split) <;> simp_all
/-- What one instruction keeps: what it reads and writes lies where it may. -/
structure InsOk (F : Tg) (f : Fm) (x : Ins) : Prop where
  r : rdB x.op = true → 0 ≤ x.b ∧ 0 ≤ x.c ∧ x.b + x.c ≤ 2147483647 ∧ x.b + x.c ≤ f.size + 16 * f.params
  w : wrB x.op = true → 0 ≤ x.a ∧ 0 ≤ x.c ∧ x.a + x.c ≤ 2147483647 ∧ x.a + x.c ≤ f.size
  c : x.op = 22 → 0 ≤ x.a ∧ x.a < (F.length : Int) ∧ callB F f x = true
theorem tgE_ins {Al : Int} {F : Tg} (h : tgE Al F = 0) : ∀ f ∈ F, ((0 ≤ f.params ∧ f.params ≤ 8) ∧ (0 ≤ f.size ∧ f.size ≤ 2147483519)) ∧ ∀ x ∈ f.code, InsOk F f x := by
  obtain ⟨h1, h2⟩ := tgE_ok h
  intro f hf
  have hz := fmE_zero (firstE_zero.1 h1 _ (List.mem_map.2 ⟨f, hf, rfl⟩))
  have hs := hz.1
  unfold shB at hs
  simp only [Bool.and_eq_true] at hs
  have b1 := withB_true.1 hs.2.1
  have b2 := withB_true.1 hs.2.2.1
  refine ⟨by omega, fun x hx => ?_⟩
  have hm := hz.2.2.1 x hx
  have hc := mins_cov hm
  unfold covB at hc
  rw [Bool.and_eq_true] at hc
  obtain ⟨c1, c2⟩ := hc
  unfold insB at c1 c2
  rw [Bool.and_eq_true, rightB_iff, decide_eq_true_eq] at c1 c2
  refine ⟨fun hr => ?_, fun hw => ?_, fun h22 => ?_⟩
  · unfold rdI at c1
    rw [hr] at c1
    simp at c1
    omega
  · unfold wrI at c2
    rw [hw] at c2
    simp at c2
    omega
  · have ha := mins_call hm h22
    have hr := List.all_eq_true.1 h2 f hf
    unfold roomB at hr
    exact ⟨ha.1, ha.2, List.all_eq_true.1 hr x hx⟩
end Go.Proofs.YtlkcjjalkdlicaaDoor
end
