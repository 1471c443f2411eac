import Derived.Test.YtlhaendgdeflkaaGreatDoorMGv
import Derived.Test.YtlhaendgdeflkaaGreatDoorMQopd
import Derived.Test.YtlhaendgdeflkaaGreatDoorMGd
import Derived.Deep.DeepCutAuto
set_option linter.unusedVariables false
set_option linter.unusedSimpArgs false
section
/-
  The contract of the reference's Instr (chapter 7): the text of any instruction. No condition but those of the types.
-/
namespace Go.Proofs.YtlhaendgdeflkaaGreatDoor
open Go.RowKit

theorem pc_on (m t : List UInt8) : pcT true m t = 32 :: (m ++ t) := rfl
theorem pc_off (m t : List UInt8) : pcT false m t = [] := rfl
/-- A step of putting a blank, a mark and a number behind a text. -/
theorem step_piece (m t s : List UInt8) (hm : m.length ≤ 1) (ht : t.length ≤ 21) (hs : s.length ≤ 1000) : ∃ p q r : List UInt8, ((⟨#[32]⟩ : ByteArray) ++ ⟨m.toArray⟩) = ⟨p.toArray⟩ ∧ ¬ 9223372036854775807 < 1 + m.length ∧
    ((⟨p.toArray⟩ : ByteArray) ++ ⟨t.toArray⟩) = ⟨q.toArray⟩ ∧ ¬ 9223372036854775807 < p.length + t.length ∧ ((⟨s.toArray⟩ : ByteArray) ++ ⟨q.toArray⟩) = ⟨r.toArray⟩ ∧ ¬ 9223372036854775807 < s.length + q.length ∧
    Hid (r = s ++ 32 :: (m ++ t)) ∧ Hid (r.length ≤ s.length + 23) := by
  refine ⟨32 :: m, 32 :: (m ++ t), s ++ 32 :: (m ++ t), cat_eq [32] m, by omega, cat_eq (32 :: m) t, ?_, cat_eq _ _, ?_, rfl, ?_⟩
  · simp only [List.length_cons]; omega
  · simp only [List.length_cons, List.length_append]; omega
  · simp only [Hid, List.length_cons, List.length_append]; omega
/-- A step of putting a blank and a number behind a text. -/
theorem step_num (t s : List UInt8) (ht : t.length ≤ 21) (hs : s.length ≤ 1000) : ∃ q r : List UInt8, ((⟨#[32]⟩ : ByteArray) ++ ⟨t.toArray⟩) = ⟨q.toArray⟩ ∧ ¬ 9223372036854775807 < 1 + t.length ∧
    ((⟨s.toArray⟩ : ByteArray) ++ ⟨q.toArray⟩) = ⟨r.toArray⟩ ∧ ¬ 9223372036854775807 < s.length + q.length ∧ Hid (r = s ++ 32 :: t) ∧ Hid (r.length ≤ s.length + 22) := by
  refine ⟨32 :: t, s ++ 32 :: t, cat_eq [32] t, by omega, cat_eq _ _, ?_, rfl, ?_⟩
  · simp only [List.length_cons]; omega
  · simp only [Hid, List.length_append, List.length_cons]; omega
theorem str_ne {l m : List UInt8} (h : l ≠ m) : ¬ ((⟨l.toArray⟩ : ByteArray) = ⟨m.toArray⟩) := fun e => h (by simpa using congrArg (fun b => b.data.toList) e)

/-- What an instruction of the types can be. -/
structure InsB (x : Ins) : Prop where
  o0 : -9223372036854775808 ≤ x.op
  o1 : x.op ≤ 9223372036854775807
  a0 : -9223372036854775808 ≤ x.a
  a1 : x.a ≤ 9223372036854775807
  b0 : -9223372036854775808 ≤ x.b
  b1 : x.b ≤ 9223372036854775807
  c0 : -9223372036854775808 ≤ x.c
  c1 : x.c ≤ 9223372036854775807
  m0 : 0 ≤ x.imm
  m1 : x.imm ≤ 18446744073709551615


set_option maxHeartbeats 4000000 in
set_option maxRecDepth 100000 in
theorem rinstr_abc (x : Ins) (hx : InsB x) (w : World) (ho : withB x.op 25 = true) (hs : useA x.op = true ∧ useB x.op = true ∧ useC x.op = true ∧ useI x.op = false) :
    Calls Tryz.prog 18 #[iv x.op x.a x.b x.c x.imm] w fun e w' => e = .returned (.string ⟨(insT x).toArray⟩) ∧ Below w.heap.size w w' := by
  obtain ⟨W0, hW0, hb0, hB0, hsz⟩ : ∃ W, w.alloc (.cells (icell x).toArray 44) = W ∧ Below w.heap.size w W ∧ Row W w.heap.size 44 (icell x) ∧ w.heap.size + 1 = W.heap.size := ⟨_, rfl, (Below.refl _ _).alloc (Nat.le_refl _) _, Row.new _ _ _, by simp⟩
  have hI := insT_pc ho
  rw [hs.1, hs.2.1, hs.2.2.1, hs.2.2.2] at hI
  obtain ⟨ho0, ho1⟩ := withB_true.1 ho
  have hnl := name_len x.op
  have hna := rname_any x.op
  simp only [ho, if_true] at hna
  have hne : (nameT x.op == [63]) = false := by simpa using name_odd ho
  obtain ⟨s0, es0⟩ : ∃ s, s = nameT x.op := ⟨_, rfl⟩
  rw [← es0] at hI hnl hna hne
  have HNA := hide hna
  obtain ⟨mA, emA⟩ : ∃ s, s = mA x.op := ⟨_, rfl⟩
  have hmA : mA.length ≤ 1 := by rw [emA]; exact mA_len _
  obtain ⟨tA, etA⟩ : ∃ s, s = Lib.itoa x.a := ⟨_, rfl⟩
  have htA : tA.length ≤ 21 := by rw [etA]; exact Lib.itoa_length_le _ hx.a0 hx.a1
  rw [← emA, ← etA] at hI
  obtain ⟨mB, emB⟩ : ∃ s, s = mB x.op := ⟨_, rfl⟩
  have hmB : mB.length ≤ 1 := by rw [emB]; exact mB_len _
  obtain ⟨tB, etB⟩ : ∃ s, s = Lib.itoa x.b := ⟨_, rfl⟩
  have htB : tB.length ≤ 21 := by rw [etB]; exact Lib.itoa_length_le _ hx.b0 hx.b1
  rw [← emB, ← etB] at hI
  obtain ⟨mC, emC⟩ : ∃ s, s = mC x.op := ⟨_, rfl⟩
  have hmC : mC.length ≤ 1 := by rw [emC]; exact mC_len _
  obtain ⟨tC, etC⟩ : ∃ s, s = Lib.itoa x.c := ⟨_, rfl⟩
  have htC : tC.length ≤ 21 := by rw [etC]; exact Lib.itoa_length_le _ hx.c0 hx.c1
  rw [← emC, ← etC] at hI
  obtain ⟨tI, etI⟩ : ∃ s, s = Lib.decDigits x.imm.toNat := ⟨_, rfl⟩
  have htI : tI.length ≤ 21 := by rw [etI, Lib.decDigits_length]; have := Lib.nDigits_le20 x.imm.toNat (by have := hx.m1; omega); omega
  rw [← etI] at hI
  have hmk := rmarks_any x.op
  rw [← emA, ← emB, ← emC] at hmk
  have hop := ropd_any x.op
  rw [hs.1, hs.2.1, hs.2.2.1, hs.2.2.2] at hop
  have hL0 : s0.length ≤ 6 := hnl
  obtain ⟨pA, qA, s1, k1A, n1A, k2A, n2A, k3A, n3A, RA, LLA⟩ := step_piece mA tA s0 hmA htA (by omega)
  have hL1 : s1.length ≤ 29 := by have := LLA.out; omega
  obtain ⟨pB, qB, s2, k1B, n1B, k2B, n2B, k3B, n3B, RB, LLB⟩ := step_piece mB tB s1 hmB htB (by omega)
  have hL2 : s2.length ≤ 52 := by have := LLB.out; omega
  obtain ⟨pC, qC, s3, k1C, n1C, k2C, n2C, k3C, n3C, RC, LLC⟩ := step_piece mC tC s2 hmC htC (by omega)
  have hL3 : s3.length ≤ 75 := by have := LLC.out; omega
  have hF : Hid (s3 = insT x) := by
    refine hide ?_
    rw [hI, RC.out, RB.out, RA.out]
    simp [pc_on, pc_off]
  have hdA := rint_any x.a hx.a0 hx.a1
  rw [← etA] at hdA
  have hdB := rint_any x.b hx.b0 hx.b1
  rw [← etB] at hdB
  have hdC := rint_any x.c hx.c0 hx.c1
  rw [← etC] at hdC
  have EA := hide emA; have TA := hide etA; clear emA etA
  have EB := hide emB; have TB := hide etB; clear emB etB
  have EC := hide emC; have TC := hide etC; clear emC etC
  have EI := hide etI; have E0 := hide es0; have HI := hide hI; have HO := hide ho; clear etI es0 hI ho hs hx
  have BL : Hid (∀ W, Below w.heap.size W W) := hide fun W => Below.refl _ _
  obtain ⟨zo, za, zb, zc, zm⟩ := x
  dsimp only at *
  have hc0 : ∀ W', Below (w.heap.size + 1) W0 W' → W'.cell? ⟨w.heap.size, 0, none⟩ = some (.int .i64 zo) := fun W' h => (hB0.below h (Nat.lt_succ_self _)).cell rfl
  have hc1 : ∀ W', Below (w.heap.size + 1) W0 W' → W'.cell? ⟨w.heap.size, 1, none⟩ = some (.int .i64 za) := fun W' h => (hB0.below h (Nat.lt_succ_self _)).cell rfl
  have hc2 : ∀ W', Below (w.heap.size + 1) W0 W' → W'.cell? ⟨w.heap.size, 2, none⟩ = some (.int .i64 zb) := fun W' h => (hB0.below h (Nat.lt_succ_self _)).cell rfl
  have hc3 : ∀ W', Below (w.heap.size + 1) W0 W' → W'.cell? ⟨w.heap.size, 3, none⟩ = some (.int .i64 zc) := fun W' h => (hB0.below h (Nat.lt_succ_self _)).cell rfl
  have hc4 : ∀ W', Below (w.heap.size + 1) W0 W' → W'.cell? ⟨w.heap.size, 4, none⟩ = some (.int .u64 zm) := fun W' h => (hB0.below h (Nat.lt_succ_self _)).cell rfl
  have hr0 : Below (w.heap.size + 1) W0 W0 := Below.refl _ _
  have HW := hide hW0; have HB0 := hide hb0; have HR := hide hB0; have HSZ := hide hsz; clear hW0 hb0 hB0 hsz hna
  go_enter Tryz.func18, Tryz.ntmps18
  go_upto_region 1 with (fail)
  rw [show w.alloc (.cells #[.int .i64 zo, .int .i64 za, .int .i64 zb, .int .i64 zc, .int .u64 zm] 44) = W0 from HW.out]
  go_wp2_with fail
  refine (HNA.out _).mono ?_
  rintro e w1 ⟨rfl, hb1⟩
  have hr1 := hr0.trans (hb1.mono (by rw [← HSZ.out]; exact Nat.le_refl _))
  have hs1 := hr1.size
  go_wp2_with fail
  refine (hop _ ho0 ho1).mono ?_
  rintro e w2 ⟨rfl, rfl⟩
  go_wp2_with fail
  refine (hmk _).mono ?_
  rintro e w3 ⟨rfl, rfl⟩
  go_wp2_with fail
  refine (hdA _).mono ?_
  rintro e wA ⟨rfl, hbA⟩
  have hrA := hr1.trans (hbA.mono (by have := HSZ.out; have := hr1.size; omega))
  go_wp2_with fail
  refine (hdB _).mono ?_
  rintro e wB ⟨rfl, hbB⟩
  have hrB := hrA.trans (hbB.mono (by have := HSZ.out; have := hrA.size; omega))
  go_wp2_with fail
  refine (hdC _).mono ?_
  rintro e wC ⟨rfl, hbC⟩
  have hrC := hrB.trans (hbC.mono (by have := HSZ.out; have := hrB.size; omega))
  go_wp2
  go_ret
  refine ⟨ret_str hF.out, HB0.out.trans (hrC.mono (Nat.le_succ _))⟩
set_option maxHeartbeats 4000000 in
set_option maxRecDepth 100000 in
theorem rinstr_ab (x : Ins) (hx : InsB x) (w : World) (ho : withB x.op 25 = true) (hs : useA x.op = true ∧ useB x.op = true ∧ useC x.op = false ∧ useI x.op = false) :
    Calls Tryz.prog 18 #[iv x.op x.a x.b x.c x.imm] w fun e w' => e = .returned (.string ⟨(insT x).toArray⟩) ∧ Below w.heap.size w w' := by
  obtain ⟨W0, hW0, hb0, hB0, hsz⟩ : ∃ W, w.alloc (.cells (icell x).toArray 44) = W ∧ Below w.heap.size w W ∧ Row W w.heap.size 44 (icell x) ∧ w.heap.size + 1 = W.heap.size := ⟨_, rfl, (Below.refl _ _).alloc (Nat.le_refl _) _, Row.new _ _ _, by simp⟩
  have hI := insT_pc ho
  rw [hs.1, hs.2.1, hs.2.2.1, hs.2.2.2] at hI
  obtain ⟨ho0, ho1⟩ := withB_true.1 ho
  have hnl := name_len x.op
  have hna := rname_any x.op
  simp only [ho, if_true] at hna
  have hne : (nameT x.op == [63]) = false := by simpa using name_odd ho
  obtain ⟨s0, es0⟩ : ∃ s, s = nameT x.op := ⟨_, rfl⟩
  rw [← es0] at hI hnl hna hne
  have HNA := hide hna
  obtain ⟨mA, emA⟩ : ∃ s, s = mA x.op := ⟨_, rfl⟩
  have hmA : mA.length ≤ 1 := by rw [emA]; exact mA_len _
  obtain ⟨tA, etA⟩ : ∃ s, s = Lib.itoa x.a := ⟨_, rfl⟩
  have htA : tA.length ≤ 21 := by rw [etA]; exact Lib.itoa_length_le _ hx.a0 hx.a1
  rw [← emA, ← etA] at hI
  obtain ⟨mB, emB⟩ : ∃ s, s = mB x.op := ⟨_, rfl⟩
  have hmB : mB.length ≤ 1 := by rw [emB]; exact mB_len _
  obtain ⟨tB, etB⟩ : ∃ s, s = Lib.itoa x.b := ⟨_, rfl⟩
  have htB : tB.length ≤ 21 := by rw [etB]; exact Lib.itoa_length_le _ hx.b0 hx.b1
  rw [← emB, ← etB] at hI
  obtain ⟨mC, emC⟩ : ∃ s, s = mC x.op := ⟨_, rfl⟩
  have hmC : mC.length ≤ 1 := by rw [emC]; exact mC_len _
  obtain ⟨tC, etC⟩ : ∃ s, s = Lib.itoa x.c := ⟨_, rfl⟩
  have htC : tC.length ≤ 21 := by rw [etC]; exact Lib.itoa_length_le _ hx.c0 hx.c1
  rw [← emC, ← etC] at hI
  obtain ⟨tI, etI⟩ : ∃ s, s = Lib.decDigits x.imm.toNat := ⟨_, rfl⟩
  have htI : tI.length ≤ 21 := by rw [etI, Lib.decDigits_length]; have := Lib.nDigits_le20 x.imm.toNat (by have := hx.m1; omega); omega
  rw [← etI] at hI
  have hmk := rmarks_any x.op
  rw [← emA, ← emB, ← emC] at hmk
  have hop := ropd_any x.op
  rw [hs.1, hs.2.1, hs.2.2.1, hs.2.2.2] at hop
  have hL0 : s0.length ≤ 6 := hnl
  obtain ⟨pA, qA, s1, k1A, n1A, k2A, n2A, k3A, n3A, RA, LLA⟩ := step_piece mA tA s0 hmA htA (by omega)
  have hL1 : s1.length ≤ 29 := by have := LLA.out; omega
  obtain ⟨pB, qB, s2, k1B, n1B, k2B, n2B, k3B, n3B, RB, LLB⟩ := step_piece mB tB s1 hmB htB (by omega)
  have hL2 : s2.length ≤ 52 := by have := LLB.out; omega
  have hF : Hid (s2 = insT x) := by
    refine hide ?_
    rw [hI, RB.out, RA.out]
    simp [pc_on, pc_off]
  have hdA := rint_any x.a hx.a0 hx.a1
  rw [← etA] at hdA
  have hdB := rint_any x.b hx.b0 hx.b1
  rw [← etB] at hdB
  have EA := hide emA; have TA := hide etA; clear emA etA
  have EB := hide emB; have TB := hide etB; clear emB etB
  have EC := hide emC; have TC := hide etC; clear emC etC
  have EI := hide etI; have E0 := hide es0; have HI := hide hI; have HO := hide ho; clear etI es0 hI ho hs hx
  have BL : Hid (∀ W, Below w.heap.size W W) := hide fun W => Below.refl _ _
  obtain ⟨zo, za, zb, zc, zm⟩ := x
  dsimp only at *
  have hc0 : ∀ W', Below (w.heap.size + 1) W0 W' → W'.cell? ⟨w.heap.size, 0, none⟩ = some (.int .i64 zo) := fun W' h => (hB0.below h (Nat.lt_succ_self _)).cell rfl
  have hc1 : ∀ W', Below (w.heap.size + 1) W0 W' → W'.cell? ⟨w.heap.size, 1, none⟩ = some (.int .i64 za) := fun W' h => (hB0.below h (Nat.lt_succ_self _)).cell rfl
  have hc2 : ∀ W', Below (w.heap.size + 1) W0 W' → W'.cell? ⟨w.heap.size, 2, none⟩ = some (.int .i64 zb) := fun W' h => (hB0.below h (Nat.lt_succ_self _)).cell rfl
  have hc3 : ∀ W', Below (w.heap.size + 1) W0 W' → W'.cell? ⟨w.heap.size, 3, none⟩ = some (.int .i64 zc) := fun W' h => (hB0.below h (Nat.lt_succ_self _)).cell rfl
  have hc4 : ∀ W', Below (w.heap.size + 1) W0 W' → W'.cell? ⟨w.heap.size, 4, none⟩ = some (.int .u64 zm) := fun W' h => (hB0.below h (Nat.lt_succ_self _)).cell rfl
  have hr0 : Below (w.heap.size + 1) W0 W0 := Below.refl _ _
  have HW := hide hW0; have HB0 := hide hb0; have HR := hide hB0; have HSZ := hide hsz; clear hW0 hb0 hB0 hsz hna
  go_enter Tryz.func18, Tryz.ntmps18
  go_upto_region 1 with (fail)
  rw [show w.alloc (.cells #[.int .i64 zo, .int .i64 za, .int .i64 zb, .int .i64 zc, .int .u64 zm] 44) = W0 from HW.out]
  go_wp2_with fail
  refine (HNA.out _).mono ?_
  rintro e w1 ⟨rfl, hb1⟩
  have hr1 := hr0.trans (hb1.mono (by rw [← HSZ.out]; exact Nat.le_refl _))
  have hs1 := hr1.size
  go_wp2_with fail
  refine (hop _ ho0 ho1).mono ?_
  rintro e w2 ⟨rfl, rfl⟩
  go_wp2_with fail
  refine (hmk _).mono ?_
  rintro e w3 ⟨rfl, rfl⟩
  go_wp2_with fail
  refine (hdA _).mono ?_
  rintro e wA ⟨rfl, hbA⟩
  have hrA := hr1.trans (hbA.mono (by have := HSZ.out; have := hr1.size; omega))
  go_wp2_with fail
  refine (hdB _).mono ?_
  rintro e wB ⟨rfl, hbB⟩
  have hrB := hrA.trans (hbB.mono (by have := HSZ.out; have := hrA.size; omega))
  go_wp2
  go_ret
  refine ⟨ret_str hF.out, HB0.out.trans (hrB.mono (Nat.le_succ _))⟩
set_option maxHeartbeats 4000000 in
set_option maxRecDepth 100000 in
theorem rinstr_a (x : Ins) (hx : InsB x) (w : World) (ho : withB x.op 25 = true) (hs : useA x.op = true ∧ useB x.op = false ∧ useC x.op = false ∧ useI x.op = false) :
    Calls Tryz.prog 18 #[iv x.op x.a x.b x.c x.imm] w fun e w' => e = .returned (.string ⟨(insT x).toArray⟩) ∧ Below w.heap.size w w' := by
  obtain ⟨W0, hW0, hb0, hB0, hsz⟩ : ∃ W, w.alloc (.cells (icell x).toArray 44) = W ∧ Below w.heap.size w W ∧ Row W w.heap.size 44 (icell x) ∧ w.heap.size + 1 = W.heap.size := ⟨_, rfl, (Below.refl _ _).alloc (Nat.le_refl _) _, Row.new _ _ _, by simp⟩
  have hI := insT_pc ho
  rw [hs.1, hs.2.1, hs.2.2.1, hs.2.2.2] at hI
  obtain ⟨ho0, ho1⟩ := withB_true.1 ho
  have hnl := name_len x.op
  have hna := rname_any x.op
  simp only [ho, if_true] at hna
  have hne : (nameT x.op == [63]) = false := by simpa using name_odd ho
  obtain ⟨s0, es0⟩ : ∃ s, s = nameT x.op := ⟨_, rfl⟩
  rw [← es0] at hI hnl hna hne
  have HNA := hide hna
  obtain ⟨mA, emA⟩ : ∃ s, s = mA x.op := ⟨_, rfl⟩
  have hmA : mA.length ≤ 1 := by rw [emA]; exact mA_len _
  obtain ⟨tA, etA⟩ : ∃ s, s = Lib.itoa x.a := ⟨_, rfl⟩
  have htA : tA.length ≤ 21 := by rw [etA]; exact Lib.itoa_length_le _ hx.a0 hx.a1
  rw [← emA, ← etA] at hI
  obtain ⟨mB, emB⟩ : ∃ s, s = mB x.op := ⟨_, rfl⟩
  have hmB : mB.length ≤ 1 := by rw [emB]; exact mB_len _
  obtain ⟨tB, etB⟩ : ∃ s, s = Lib.itoa x.b := ⟨_, rfl⟩
  have htB : tB.length ≤ 21 := by rw [etB]; exact Lib.itoa_length_le _ hx.b0 hx.b1
  rw [← emB, ← etB] at hI
  obtain ⟨mC, emC⟩ : ∃ s, s = mC x.op := ⟨_, rfl⟩
  have hmC : mC.length ≤ 1 := by rw [emC]; exact mC_len _
  obtain ⟨tC, etC⟩ : ∃ s, s = Lib.itoa x.c := ⟨_, rfl⟩
  have htC : tC.length ≤ 21 := by rw [etC]; exact Lib.itoa_length_le _ hx.c0 hx.c1
  rw [← emC, ← etC] at hI
  obtain ⟨tI, etI⟩ : ∃ s, s = Lib.decDigits x.imm.toNat := ⟨_, rfl⟩
  have htI : tI.length ≤ 21 := by rw [etI, Lib.decDigits_length]; have := Lib.nDigits_le20 x.imm.toNat (by have := hx.m1; omega); omega
  rw [← etI] at hI
  have hmk := rmarks_any x.op
  rw [← emA, ← emB, ← emC] at hmk
  have hop := ropd_any x.op
  rw [hs.1, hs.2.1, hs.2.2.1, hs.2.2.2] at hop
  have hL0 : s0.length ≤ 6 := hnl
  obtain ⟨pA, qA, s1, k1A, n1A, k2A, n2A, k3A, n3A, RA, LLA⟩ := step_piece mA tA s0 hmA htA (by omega)
  have hL1 : s1.length ≤ 29 := by have := LLA.out; omega
  have hF : Hid (s1 = insT x) := by
    refine hide ?_
    rw [hI, RA.out]
    simp [pc_on, pc_off]
  have hdA := rint_any x.a hx.a0 hx.a1
  rw [← etA] at hdA
  have EA := hide emA; have TA := hide etA; clear emA etA
  have EB := hide emB; have TB := hide etB; clear emB etB
  have EC := hide emC; have TC := hide etC; clear emC etC
  have EI := hide etI; have E0 := hide es0; have HI := hide hI; have HO := hide ho; clear etI es0 hI ho hs hx
  have BL : Hid (∀ W, Below w.heap.size W W) := hide fun W => Below.refl _ _
  obtain ⟨zo, za, zb, zc, zm⟩ := x
  dsimp only at *
  have hc0 : ∀ W', Below (w.heap.size + 1) W0 W' → W'.cell? ⟨w.heap.size, 0, none⟩ = some (.int .i64 zo) := fun W' h => (hB0.below h (Nat.lt_succ_self _)).cell rfl
  have hc1 : ∀ W', Below (w.heap.size + 1) W0 W' → W'.cell? ⟨w.heap.size, 1, none⟩ = some (.int .i64 za) := fun W' h => (hB0.below h (Nat.lt_succ_self _)).cell rfl
  have hc2 : ∀ W', Below (w.heap.size + 1) W0 W' → W'.cell? ⟨w.heap.size, 2, none⟩ = some (.int .i64 zb) := fun W' h => (hB0.below h (Nat.lt_succ_self _)).cell rfl
  have hc3 : ∀ W', Below (w.heap.size + 1) W0 W' → W'.cell? ⟨w.heap.size, 3, none⟩ = some (.int .i64 zc) := fun W' h => (hB0.below h (Nat.lt_succ_self _)).cell rfl
  have hc4 : ∀ W', Below (w.heap.size + 1) W0 W' → W'.cell? ⟨w.heap.size, 4, none⟩ = some (.int .u64 zm) := fun W' h => (hB0.below h (Nat.lt_succ_self _)).cell rfl
  have hr0 : Below (w.heap.size + 1) W0 W0 := Below.refl _ _
  have HW := hide hW0; have HB0 := hide hb0; have HR := hide hB0; have HSZ := hide hsz; clear hW0 hb0 hB0 hsz hna
  go_enter Tryz.func18, Tryz.ntmps18
  go_upto_region 1 with (fail)
  rw [show w.alloc (.cells #[.int .i64 zo, .int .i64 za, .int .i64 zb, .int .i64 zc, .int .u64 zm] 44) = W0 from HW.out]
  go_wp2_with fail
  refine (HNA.out _).mono ?_
  rintro e w1 ⟨rfl, hb1⟩
  have hr1 := hr0.trans (hb1.mono (by rw [← HSZ.out]; exact Nat.le_refl _))
  have hs1 := hr1.size
  go_wp2_with fail
  refine (hop _ ho0 ho1).mono ?_
  rintro e w2 ⟨rfl, rfl⟩
  go_wp2_with fail
  refine (hmk _).mono ?_
  rintro e w3 ⟨rfl, rfl⟩
  go_wp2_with fail
  refine (hdA _).mono ?_
  rintro e wA ⟨rfl, hbA⟩
  have hrA := hr1.trans (hbA.mono (by have := HSZ.out; have := hr1.size; omega))
  go_wp2
  go_ret
  refine ⟨ret_str hF.out, HB0.out.trans (hrA.mono (Nat.le_succ _))⟩
set_option maxHeartbeats 4000000 in
set_option maxRecDepth 100000 in
theorem rinstr_ai (x : Ins) (hx : InsB x) (w : World) (ho : withB x.op 25 = true) (hs : useA x.op = true ∧ useB x.op = false ∧ useC x.op = false ∧ useI x.op = true) :
    Calls Tryz.prog 18 #[iv x.op x.a x.b x.c x.imm] w fun e w' => e = .returned (.string ⟨(insT x).toArray⟩) ∧ Below w.heap.size w w' := by
  obtain ⟨W0, hW0, hb0, hB0, hsz⟩ : ∃ W, w.alloc (.cells (icell x).toArray 44) = W ∧ Below w.heap.size w W ∧ Row W w.heap.size 44 (icell x) ∧ w.heap.size + 1 = W.heap.size := ⟨_, rfl, (Below.refl _ _).alloc (Nat.le_refl _) _, Row.new _ _ _, by simp⟩
  have hI := insT_pc ho
  rw [hs.1, hs.2.1, hs.2.2.1, hs.2.2.2] at hI
  obtain ⟨ho0, ho1⟩ := withB_true.1 ho
  have hnl := name_len x.op
  have hna := rname_any x.op
  simp only [ho, if_true] at hna
  have hne : (nameT x.op == [63]) = false := by simpa using name_odd ho
  obtain ⟨s0, es0⟩ : ∃ s, s = nameT x.op := ⟨_, rfl⟩
  rw [← es0] at hI hnl hna hne
  have HNA := hide hna
  obtain ⟨mA, emA⟩ : ∃ s, s = mA x.op := ⟨_, rfl⟩
  have hmA : mA.length ≤ 1 := by rw [emA]; exact mA_len _
  obtain ⟨tA, etA⟩ : ∃ s, s = Lib.itoa x.a := ⟨_, rfl⟩
  have htA : tA.length ≤ 21 := by rw [etA]; exact Lib.itoa_length_le _ hx.a0 hx.a1
  rw [← emA, ← etA] at hI
  obtain ⟨mB, emB⟩ : ∃ s, s = mB x.op := ⟨_, rfl⟩
  have hmB : mB.length ≤ 1 := by rw [emB]; exact mB_len _
  obtain ⟨tB, etB⟩ : ∃ s, s = Lib.itoa x.b := ⟨_, rfl⟩
  have htB : tB.length ≤ 21 := by rw [etB]; exact Lib.itoa_length_le _ hx.b0 hx.b1
  rw [← emB, ← etB] at hI
  obtain ⟨mC, emC⟩ : ∃ s, s = mC x.op := ⟨_, rfl⟩
  have hmC : mC.length ≤ 1 := by rw [emC]; exact mC_len _
  obtain ⟨tC, etC⟩ : ∃ s, s = Lib.itoa x.c := ⟨_, rfl⟩
  have htC : tC.length ≤ 21 := by rw [etC]; exact Lib.itoa_length_le _ hx.c0 hx.c1
  rw [← emC, ← etC] at hI
  obtain ⟨tI, etI⟩ : ∃ s, s = Lib.decDigits x.imm.toNat := ⟨_, rfl⟩
  have htI : tI.length ≤ 21 := by rw [etI, Lib.decDigits_length]; have := Lib.nDigits_le20 x.imm.toNat (by have := hx.m1; omega); omega
  rw [← etI] at hI
  have hmk := rmarks_any x.op
  rw [← emA, ← emB, ← emC] at hmk
  have hop := ropd_any x.op
  rw [hs.1, hs.2.1, hs.2.2.1, hs.2.2.2] at hop
  have hL0 : s0.length ≤ 6 := hnl
  obtain ⟨pA, qA, s1, k1A, n1A, k2A, n2A, k3A, n3A, RA, LLA⟩ := step_piece mA tA s0 hmA htA (by omega)
  have hL1 : s1.length ≤ 29 := by have := LLA.out; omega
  obtain ⟨qI, s2, k1I, n1I, k2I, n2I, RI, LLI⟩ := step_num tI s1 htI (by omega)
  have hL2 : s2.length ≤ 52 := by have := LLI.out; omega
  have hF : Hid (s2 = insT x) := by
    refine hide ?_
    rw [hI, RI.out, RA.out]
    simp [pc_on, pc_off]
  have hdA := rint_any x.a hx.a0 hx.a1
  rw [← etA] at hdA
  have hdI := rdecimal_any x.imm.toNat (by have := hx.m1; omega)
  rw [Int.toNat_of_nonneg hx.m0, ← etI] at hdI
  have EA := hide emA; have TA := hide etA; clear emA etA
  have EB := hide emB; have TB := hide etB; clear emB etB
  have EC := hide emC; have TC := hide etC; clear emC etC
  have EI := hide etI; have E0 := hide es0; have HI := hide hI; have HO := hide ho; clear etI es0 hI ho hs hx
  have BL : Hid (∀ W, Below w.heap.size W W) := hide fun W => Below.refl _ _
  obtain ⟨zo, za, zb, zc, zm⟩ := x
  dsimp only at *
  have hc0 : ∀ W', Below (w.heap.size + 1) W0 W' → W'.cell? ⟨w.heap.size, 0, none⟩ = some (.int .i64 zo) := fun W' h => (hB0.below h (Nat.lt_succ_self _)).cell rfl
  have hc1 : ∀ W', Below (w.heap.size + 1) W0 W' → W'.cell? ⟨w.heap.size, 1, none⟩ = some (.int .i64 za) := fun W' h => (hB0.below h (Nat.lt_succ_self _)).cell rfl
  have hc2 : ∀ W', Below (w.heap.size + 1) W0 W' → W'.cell? ⟨w.heap.size, 2, none⟩ = some (.int .i64 zb) := fun W' h => (hB0.below h (Nat.lt_succ_self _)).cell rfl
  have hc3 : ∀ W', Below (w.heap.size + 1) W0 W' → W'.cell? ⟨w.heap.size, 3, none⟩ = some (.int .i64 zc) := fun W' h => (hB0.below h (Nat.lt_succ_self _)).cell rfl
  have hc4 : ∀ W', Below (w.heap.size + 1) W0 W' → W'.cell? ⟨w.heap.size, 4, none⟩ = some (.int .u64 zm) := fun W' h => (hB0.below h (Nat.lt_succ_self _)).cell rfl
  have hr0 : Below (w.heap.size + 1) W0 W0 := Below.refl _ _
  have HW := hide hW0; have HB0 := hide hb0; have HR := hide hB0; have HSZ := hide hsz; clear hW0 hb0 hB0 hsz hna
  go_enter Tryz.func18, Tryz.ntmps18
  go_upto_region 1 with (fail)
  rw [show w.alloc (.cells #[.int .i64 zo, .int .i64 za, .int .i64 zb, .int .i64 zc, .int .u64 zm] 44) = W0 from HW.out]
  go_wp2_with fail
  refine (HNA.out _).mono ?_
  rintro e w1 ⟨rfl, hb1⟩
  have hr1 := hr0.trans (hb1.mono (by rw [← HSZ.out]; exact Nat.le_refl _))
  have hs1 := hr1.size
  go_wp2_with fail
  refine (hop _ ho0 ho1).mono ?_
  rintro e w2 ⟨rfl, rfl⟩
  go_wp2_with fail
  refine (hmk _).mono ?_
  rintro e w3 ⟨rfl, rfl⟩
  go_wp2_with fail
  refine (hdA _).mono ?_
  rintro e wA ⟨rfl, hbA⟩
  have hrA := hr1.trans (hbA.mono (by have := HSZ.out; have := hr1.size; omega))
  go_wp2_with fail
  refine (hdI _).mono ?_
  rintro e wI ⟨rfl, hbI⟩
  have hrI := hrA.trans (hbI.mono (by have := HSZ.out; have := hrA.size; omega))
  go_wp2
  go_ret
  refine ⟨ret_str hF.out, HB0.out.trans (hrI.mono (Nat.le_succ _))⟩
set_option maxHeartbeats 4000000 in
set_option maxRecDepth 100000 in
theorem rinstr_i (x : Ins) (hx : InsB x) (w : World) (ho : withB x.op 25 = true) (hs : useA x.op = false ∧ useB x.op = false ∧ useC x.op = false ∧ useI x.op = true) :
    Calls Tryz.prog 18 #[iv x.op x.a x.b x.c x.imm] w fun e w' => e = .returned (.string ⟨(insT x).toArray⟩) ∧ Below w.heap.size w w' := by
  obtain ⟨W0, hW0, hb0, hB0, hsz⟩ : ∃ W, w.alloc (.cells (icell x).toArray 44) = W ∧ Below w.heap.size w W ∧ Row W w.heap.size 44 (icell x) ∧ w.heap.size + 1 = W.heap.size := ⟨_, rfl, (Below.refl _ _).alloc (Nat.le_refl _) _, Row.new _ _ _, by simp⟩
  have hI := insT_pc ho
  rw [hs.1, hs.2.1, hs.2.2.1, hs.2.2.2] at hI
  obtain ⟨ho0, ho1⟩ := withB_true.1 ho
  have hnl := name_len x.op
  have hna := rname_any x.op
  simp only [ho, if_true] at hna
  have hne : (nameT x.op == [63]) = false := by simpa using name_odd ho
  obtain ⟨s0, es0⟩ : ∃ s, s = nameT x.op := ⟨_, rfl⟩
  rw [← es0] at hI hnl hna hne
  have HNA := hide hna
  obtain ⟨mA, emA⟩ : ∃ s, s = mA x.op := ⟨_, rfl⟩
  have hmA : mA.length ≤ 1 := by rw [emA]; exact mA_len _
  obtain ⟨tA, etA⟩ : ∃ s, s = Lib.itoa x.a := ⟨_, rfl⟩
  have htA : tA.length ≤ 21 := by rw [etA]; exact Lib.itoa_length_le _ hx.a0 hx.a1
  rw [← emA, ← etA] at hI
  obtain ⟨mB, emB⟩ : ∃ s, s = mB x.op := ⟨_, rfl⟩
  have hmB : mB.length ≤ 1 := by rw [emB]; exact mB_len _
  obtain ⟨tB, etB⟩ : ∃ s, s = Lib.itoa x.b := ⟨_, rfl⟩
  have htB : tB.length ≤ 21 := by rw [etB]; exact Lib.itoa_length_le _ hx.b0 hx.b1
  rw [← emB, ← etB] at hI
  obtain ⟨mC, emC⟩ : ∃ s, s = mC x.op := ⟨_, rfl⟩
  have hmC : mC.length ≤ 1 := by rw [emC]; exact mC_len _
  obtain ⟨tC, etC⟩ : ∃ s, s = Lib.itoa x.c := ⟨_, rfl⟩
  have htC : tC.length ≤ 21 := by rw [etC]; exact Lib.itoa_length_le _ hx.c0 hx.c1
  rw [← emC, ← etC] at hI
  obtain ⟨tI, etI⟩ : ∃ s, s = Lib.decDigits x.imm.toNat := ⟨_, rfl⟩
  have htI : tI.length ≤ 21 := by rw [etI, Lib.decDigits_length]; have := Lib.nDigits_le20 x.imm.toNat (by have := hx.m1; omega); omega
  rw [← etI] at hI
  have hmk := rmarks_any x.op
  rw [← emA, ← emB, ← emC] at hmk
  have hop := ropd_any x.op
  rw [hs.1, hs.2.1, hs.2.2.1, hs.2.2.2] at hop
  have hL0 : s0.length ≤ 6 := hnl
  obtain ⟨qI, s1, k1I, n1I, k2I, n2I, RI, LLI⟩ := step_num tI s0 htI (by omega)
  have hL1 : s1.length ≤ 29 := by have := LLI.out; omega
  have hF : Hid (s1 = insT x) := by
    refine hide ?_
    rw [hI, RI.out]
    simp [pc_on, pc_off]
  have hdI := rdecimal_any x.imm.toNat (by have := hx.m1; omega)
  rw [Int.toNat_of_nonneg hx.m0, ← etI] at hdI
  have EA := hide emA; have TA := hide etA; clear emA etA
  have EB := hide emB; have TB := hide etB; clear emB etB
  have EC := hide emC; have TC := hide etC; clear emC etC
  have EI := hide etI; have E0 := hide es0; have HI := hide hI; have HO := hide ho; clear etI es0 hI ho hs hx
  have BL : Hid (∀ W, Below w.heap.size W W) := hide fun W => Below.refl _ _
  obtain ⟨zo, za, zb, zc, zm⟩ := x
  dsimp only at *
  have hc0 : ∀ W', Below (w.heap.size + 1) W0 W' → W'.cell? ⟨w.heap.size, 0, none⟩ = some (.int .i64 zo) := fun W' h => (hB0.below h (Nat.lt_succ_self _)).cell rfl
  have hc1 : ∀ W', Below (w.heap.size + 1) W0 W' → W'.cell? ⟨w.heap.size, 1, none⟩ = some (.int .i64 za) := fun W' h => (hB0.below h (Nat.lt_succ_self _)).cell rfl
  have hc2 : ∀ W', Below (w.heap.size + 1) W0 W' → W'.cell? ⟨w.heap.size, 2, none⟩ = some (.int .i64 zb) := fun W' h => (hB0.below h (Nat.lt_succ_self _)).cell rfl
  have hc3 : ∀ W', Below (w.heap.size + 1) W0 W' → W'.cell? ⟨w.heap.size, 3, none⟩ = some (.int .i64 zc) := fun W' h => (hB0.below h (Nat.lt_succ_self _)).cell rfl
  have hc4 : ∀ W', Below (w.heap.size + 1) W0 W' → W'.cell? ⟨w.heap.size, 4, none⟩ = some (.int .u64 zm) := fun W' h => (hB0.below h (Nat.lt_succ_self _)).cell rfl
  have hr0 : Below (w.heap.size + 1) W0 W0 := Below.refl _ _
  have HW := hide hW0; have HB0 := hide hb0; have HR := hide hB0; have HSZ := hide hsz; clear hW0 hb0 hB0 hsz hna
  go_enter Tryz.func18, Tryz.ntmps18
  go_upto_region 1 with (fail)
  rw [show w.alloc (.cells #[.int .i64 zo, .int .i64 za, .int .i64 zb, .int .i64 zc, .int .u64 zm] 44) = W0 from HW.out]
  go_wp2_with fail
  refine (HNA.out _).mono ?_
  rintro e w1 ⟨rfl, hb1⟩
  have hr1 := hr0.trans (hb1.mono (by rw [← HSZ.out]; exact Nat.le_refl _))
  have hs1 := hr1.size
  go_wp2_with fail
  refine (hop _ ho0 ho1).mono ?_
  rintro e w2 ⟨rfl, rfl⟩
  go_wp2_with fail
  refine (hmk _).mono ?_
  rintro e w3 ⟨rfl, rfl⟩
  go_wp2_with fail
  refine (hdI _).mono ?_
  rintro e wI ⟨rfl, hbI⟩
  have hrI := hr1.trans (hbI.mono (by have := HSZ.out; have := hr1.size; omega))
  go_wp2
  go_ret
  refine ⟨ret_str hF.out, HB0.out.trans (hrI.mono (Nat.le_succ _))⟩
set_option maxHeartbeats 4000000 in
set_option maxRecDepth 100000 in
theorem rinstr_none (x : Ins) (hx : InsB x) (w : World) (ho : withB x.op 25 = true) (hs : useA x.op = false ∧ useB x.op = false ∧ useC x.op = false ∧ useI x.op = false) :
    Calls Tryz.prog 18 #[iv x.op x.a x.b x.c x.imm] w fun e w' => e = .returned (.string ⟨(insT x).toArray⟩) ∧ Below w.heap.size w w' := by
  obtain ⟨W0, hW0, hb0, hB0, hsz⟩ : ∃ W, w.alloc (.cells (icell x).toArray 44) = W ∧ Below w.heap.size w W ∧ Row W w.heap.size 44 (icell x) ∧ w.heap.size + 1 = W.heap.size := ⟨_, rfl, (Below.refl _ _).alloc (Nat.le_refl _) _, Row.new _ _ _, by simp⟩
  have hI := insT_pc ho
  rw [hs.1, hs.2.1, hs.2.2.1, hs.2.2.2] at hI
  obtain ⟨ho0, ho1⟩ := withB_true.1 ho
  have hnl := name_len x.op
  have hna := rname_any x.op
  simp only [ho, if_true] at hna
  have hne : (nameT x.op == [63]) = false := by simpa using name_odd ho
  obtain ⟨s0, es0⟩ : ∃ s, s = nameT x.op := ⟨_, rfl⟩
  rw [← es0] at hI hnl hna hne
  have HNA := hide hna
  obtain ⟨mA, emA⟩ : ∃ s, s = mA x.op := ⟨_, rfl⟩
  have hmA : mA.length ≤ 1 := by rw [emA]; exact mA_len _
  obtain ⟨tA, etA⟩ : ∃ s, s = Lib.itoa x.a := ⟨_, rfl⟩
  have htA : tA.length ≤ 21 := by rw [etA]; exact Lib.itoa_length_le _ hx.a0 hx.a1
  rw [← emA, ← etA] at hI
  obtain ⟨mB, emB⟩ : ∃ s, s = mB x.op := ⟨_, rfl⟩
  have hmB : mB.length ≤ 1 := by rw [emB]; exact mB_len _
  obtain ⟨tB, etB⟩ : ∃ s, s = Lib.itoa x.b := ⟨_, rfl⟩
  have htB : tB.length ≤ 21 := by rw [etB]; exact Lib.itoa_length_le _ hx.b0 hx.b1
  rw [← emB, ← etB] at hI
  obtain ⟨mC, emC⟩ : ∃ s, s = mC x.op := ⟨_, rfl⟩
  have hmC : mC.length ≤ 1 := by rw [emC]; exact mC_len _
  obtain ⟨tC, etC⟩ : ∃ s, s = Lib.itoa x.c := ⟨_, rfl⟩
  have htC : tC.length ≤ 21 := by rw [etC]; exact Lib.itoa_length_le _ hx.c0 hx.c1
  rw [← emC, ← etC] at hI
  obtain ⟨tI, etI⟩ : ∃ s, s = Lib.decDigits x.imm.toNat := ⟨_, rfl⟩
  have htI : tI.length ≤ 21 := by rw [etI, Lib.decDigits_length]; have := Lib.nDigits_le20 x.imm.toNat (by have := hx.m1; omega); omega
  rw [← etI] at hI
  have hmk := rmarks_any x.op
  rw [← emA, ← emB, ← emC] at hmk
  have hop := ropd_any x.op
  rw [hs.1, hs.2.1, hs.2.2.1, hs.2.2.2] at hop
  have hL0 : s0.length ≤ 6 := hnl
  have hF : Hid (s0 = insT x) := by
    refine hide ?_
    rw [hI]
    simp [pc_on, pc_off]
  have EA := hide emA; have TA := hide etA; clear emA etA
  have EB := hide emB; have TB := hide etB; clear emB etB
  have EC := hide emC; have TC := hide etC; clear emC etC
  have EI := hide etI; have E0 := hide es0; have HI := hide hI; have HO := hide ho; clear etI es0 hI ho hs hx
  have BL : Hid (∀ W, Below w.heap.size W W) := hide fun W => Below.refl _ _
  obtain ⟨zo, za, zb, zc, zm⟩ := x
  dsimp only at *
  have hc0 : ∀ W', Below (w.heap.size + 1) W0 W' → W'.cell? ⟨w.heap.size, 0, none⟩ = some (.int .i64 zo) := fun W' h => (hB0.below h (Nat.lt_succ_self _)).cell rfl
  have hc1 : ∀ W', Below (w.heap.size + 1) W0 W' → W'.cell? ⟨w.heap.size, 1, none⟩ = some (.int .i64 za) := fun W' h => (hB0.below h (Nat.lt_succ_self _)).cell rfl
  have hc2 : ∀ W', Below (w.heap.size + 1) W0 W' → W'.cell? ⟨w.heap.size, 2, none⟩ = some (.int .i64 zb) := fun W' h => (hB0.below h (Nat.lt_succ_self _)).cell rfl
  have hc3 : ∀ W', Below (w.heap.size + 1) W0 W' → W'.cell? ⟨w.heap.size, 3, none⟩ = some (.int .i64 zc) := fun W' h => (hB0.below h (Nat.lt_succ_self _)).cell rfl
  have hc4 : ∀ W', Below (w.heap.size + 1) W0 W' → W'.cell? ⟨w.heap.size, 4, none⟩ = some (.int .u64 zm) := fun W' h => (hB0.below h (Nat.lt_succ_self _)).cell rfl
  have hr0 : Below (w.heap.size + 1) W0 W0 := Below.refl _ _
  have HW := hide hW0; have HB0 := hide hb0; have HR := hide hB0; have HSZ := hide hsz; clear hW0 hb0 hB0 hsz hna
  go_enter Tryz.func18, Tryz.ntmps18
  go_upto_region 1 with (fail)
  rw [show w.alloc (.cells #[.int .i64 zo, .int .i64 za, .int .i64 zb, .int .i64 zc, .int .u64 zm] 44) = W0 from HW.out]
  go_wp2_with fail
  refine (HNA.out _).mono ?_
  rintro e w1 ⟨rfl, hb1⟩
  have hr1 := hr0.trans (hb1.mono (by rw [← HSZ.out]; exact Nat.le_refl _))
  have hs1 := hr1.size
  go_wp2_with fail
  refine (hop _ ho0 ho1).mono ?_
  rintro e w2 ⟨rfl, rfl⟩
  go_wp2_with fail
  refine (hmk _).mono ?_
  rintro e w3 ⟨rfl, rfl⟩
  go_wp2
  go_ret
  refine ⟨ret_str hF.out, HB0.out.trans (hr1.mono (Nat.le_succ _))⟩
end Go.Proofs.YtlhaendgdeflkaaGreatDoor
end
