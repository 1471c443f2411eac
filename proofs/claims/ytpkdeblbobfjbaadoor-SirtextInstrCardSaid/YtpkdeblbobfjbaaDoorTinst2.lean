/-
  The contracts of both Instr at any instruction. Conditions: those of Tinstr.
-/
import Derived.Test.YtpkdeblbobfjbaaDoorTinstr
namespace Go.Proofs.YtpkdeblbobfjbaaDoor
open Go.RowKit

theorem insT_out {x : Ins} (h : ¬ withB x.op 25 = true) : insT x = [63] := by unfold insT; rw [if_neg h]

set_option maxHeartbeats 4000000 in
set_option maxRecDepth 100000 in
theorem rinstr_out (x : Ins) (w : World) (ho : ¬ withB x.op 25 = true) :
    Calls Tryd.prog 7 #[iv x.op x.a x.b x.c x.imm] w fun e w' => e = .returned (.string ⟨(insT x).toArray⟩) ∧ Below w.heap.size w w' := by
  obtain ⟨W0, hW0, hb0, hB0, hsz⟩ : ∃ W, w.alloc (.cells (icell x).toArray 24) = W ∧ Below w.heap.size w W ∧ Row W w.heap.size 24 (icell x) ∧ w.heap.size + 1 = W.heap.size := ⟨_, rfl, (Below.refl _ _).alloc (Nat.le_refl _) _, Row.new _ _ _, by simp⟩
  rw [insT_out ho]
  have hna := rname_any x.op
  simp only [ho] at hna
  have HNA := hide hna
  have c0 := hB0.cell (k := 0) rfl
  have HW := hide hW0; have HB0 := hide hb0
  clear hna ho hW0 hb0 hB0
  obtain ⟨zo, za, zb, zc, zm⟩ := x
  dsimp only at *
  go_enter Tryd.func7, Tryd.ntmps7
  go_upto_region 1 with (fail)
  rw [show w.alloc (.cells #[.int .i64 zo, .int .i64 za, .int .i64 zb, .int .i64 zc, .int .u64 zm] 24) = W0 from HW.out]
  go_wp2_with fail
  refine (HNA.out _).mono ?_
  rintro e w1 ⟨rfl, hb1⟩
  go_wp2
  go_ret
  exact ⟨rfl, below_step HB0.out hb1⟩

theorem rinstr_any (x : Ins) (hx : InsB x) (w : World) :
    Calls Tryd.prog 7 #[iv x.op x.a x.b x.c x.imm] w fun e w' => e = .returned (.string ⟨(insT x).toArray⟩) ∧ Below w.heap.size w w' := by
  by_cases ho : withB x.op 25 = true
  · have h := withB_true.1 ho
    rcases shapes_of h.1 h.2 with a | a | a | a | a | a
    · exact rinstr_abc x hx w ho a
    · exact rinstr_ab x hx w ho a
    · exact rinstr_a x hx w ho a
    · exact rinstr_ai x hx w ho a
    · exact rinstr_i x hx w ho a
    · exact rinstr_none x hx w ho a
  · exact rinstr_out x w ho

set_option maxHeartbeats 4000000 in
set_option maxRecDepth 100000 in
theorem dinstr_out (x : Ins) (w : World) (ho : ¬ withB x.op 25 = true) :
    Calls Tryd.prog 6 #[iv x.op x.a x.b x.c x.imm] w fun e w' => e = .returned (.string ⟨(insT x).toArray⟩) ∧ Below w.heap.size w w' := by
  rw [insT_out ho]
  by_cases h0 : x.op < 0
  · clear ho
    obtain ⟨zo, za, zb, zc, zm⟩ := x
    dsimp only at *
    go_enter Tryd.func6, Tryd.ntmps6
    go_wp2
    go_ret
    exact ⟨rfl, (Below.refl _ _).alloc (Nat.le_refl _) _⟩
  · have h1 : 25 ≤ x.op := by
      have := withB_false.1 (by simpa using ho); omega
    clear ho
    obtain ⟨zo, za, zb, zc, zm⟩ := x
    dsimp only at *
    go_enter Tryd.func6, Tryd.ntmps6
    go_wp2
    go_ret
    exact ⟨rfl, (Below.refl _ _).alloc (Nat.le_refl _) _⟩

theorem dinstr_any (x : Ins) (hx : InsB x) (w : World) (hP : Lib.TabIs Tryd.prog w "internal/strconv.uint64pow10" .u64 Lib.pow10Tab) (hS : Hid (Synt w)) :
    Calls Tryd.prog 6 #[iv x.op x.a x.b x.c x.imm] w fun e w' => e = .returned (.string ⟨(insT x).toArray⟩) ∧ Below w.heap.size w w' := by
  by_cases ho : withB x.op 25 = true
  · have h := withB_true.1 ho
    exact dinstr_in x hx w hP hS x.op.toNat (by omega) (by omega)
  · exact dinstr_out x w ho

set_option maxRecDepth 100000 in
theorem awake_any (w : World) (hP : Lib.TabIs Tryd.prog w "internal/strconv.uint64pow10" .u64 Lib.pow10Tab) (hS : Hid (Synt w)) :
    Calls Tryd.prog 5 #[] w fun e w' => e = .returned (.bool true) ∧ Below w.heap.size w w' := by
  have hi : insT ⟨0, 1, 0, 0, 7⟩ = [99, 111, 110, 115, 116, 32, 114, 49, 32, 55] := by
    rw [insT_tail rfl, tail_app, tail_app, tail_app, tail_opd, tail_opd, tail_opd, tail_imm]
    have e1 : Lib.itoa 1 = [49] := by unfold Lib.itoa; rw [if_neg (by decide)]; exact Lib.decDigits_one (by decide)
    have e7 : Lib.decDigits (7 : Int).toNat = [55] := Lib.decDigits_one (by decide)
    rw [e1, e7]
    rfl
  have hd := dinstr_any ⟨0, 1, 0, 0, 7⟩ ⟨by decide, by decide, by decide, by decide, by decide, by decide, by decide, by decide, by decide, by decide⟩ w hP hS
  rw [hi] at hd
  have HD := hide hd
  clear hd hi hP
  go_enter Tryd.func5, Tryd.ntmps5
  go_wp2_with fail
  refine HD.out.mono ?_
  rintro e w1 ⟨rfl, hb1⟩
  go_wp2
  go_ret
  exact ⟨rfl, hb1⟩
end Go.Proofs.YtpkdeblbobfjbaaDoor
