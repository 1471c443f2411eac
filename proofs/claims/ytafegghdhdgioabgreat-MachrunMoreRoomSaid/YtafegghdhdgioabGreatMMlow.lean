import Derived.Test.YtafegghdhdgioabGreatMNce
import Derived.Test.YtafegghdhdgioabGreatMBx
import Derived.Test.YtafegghdhdgioabGreatMEmath
import Derived.Test.YtafegghdhdgioabGreatMEadd
import Derived.Deep.DeepCutAuto
import Derived.Deep.QuietTactic
import Derived.BigQuiet
import Derived.Outline
set_option linter.unusedVariables false
set_option linter.unusedSimpArgs false
section
/-
  The mathematics of the plain layout: argument areas, offsets one behind the other, when a layout's shape is right. No function of the program is named here.
-/
namespace Go.Proofs.YtafegghdhdgioabGreat
open Go.RowKit

/-- How many arguments the calls of some code need. -/
def argI (F : Pg) (n : Int) (x : Ins) : Int := if x.op = 18 then max n (x.a + 1) else if x.op = 22 then max n (((F[x.a.toNat]?).map Fn.params).getD 0) else n
def argN (F : Pg) (l : List Ins) : Int := l.foldl (argI F) 0
theorem argN_snoc (F : Pg) (l : List Ins) (k : Nat) (hk : k < l.length) : argN F (l.take (k + 1)) = argI F (argN F (l.take k)) l[k] := by
  unfold argN
  rw [snoc_take hk, List.foldl_append]; rfl
theorem argI_arg {F : Pg} {n : Int} {x : Ins} (h : x.op = 18) : argI F n x = max n (x.a + 1) := by unfold argI; rw [if_pos h]
theorem argI_call {F : Pg} {n : Int} {x : Ins} {j : Nat} {g : Fn} (h : x.op = 22) (ha : x.a = (j : Int)) (hg : F[j]? = some g) : argI F n x = max n g.params := by
  unfold argI; rw [if_neg (by omega), if_pos h, ha, Int.toNat_natCast, hg]; rfl
theorem argI_other {F : Pg} {n : Int} {x : Ins} (h : x.op ≠ 18) (h2 : x.op ≠ 22) : argI F n x = n := by unfold argI; rw [if_neg h, if_neg h2]
/-- What holds of the code of a right program. -/
def ArgOk (F : Pg) (l : List Ins) : Prop := (∀ x ∈ l, x.op = 18 → 0 ≤ x.a ∧ x.a ≤ 7) ∧ (∀ x ∈ l, x.op = 22 → 0 ≤ x.a ∧ x.a < F.length) ∧ ∀ g ∈ F, 0 ≤ g.params ∧ g.params ≤ 8
theorem argI_b {F : Pg} {l : List Ins} {x : Ins} {n : Int} (h : ArgOk F l) (hx : x ∈ l) (hn : 0 ≤ n ∧ n ≤ 8) : 0 ≤ argI F n x ∧ argI F n x ≤ 8 := by
  by_cases h18 : x.op = 18
  · rw [argI_arg h18]; have := h.1 x hx h18; omega
  · by_cases h22 : x.op = 22
    · obtain ⟨a0, a1⟩ := h.2.1 x hx h22
      obtain ⟨j, hj⟩ := Int.eq_ofNat_of_zero_le a0
      have hl : j < F.length := by omega
      rw [argI_call h22 hj (List.getElem?_eq_getElem hl)]
      have := h.2.2 F[j] (List.getElem_mem hl)
      omega
    · rw [argI_other h18 h22]; exact hn
theorem argN_b {F : Pg} {l : List Ins} (h : ArgOk F l) (k : Nat) : 0 ≤ argN F (l.take k) ∧ argN F (l.take k) ≤ 8 := by
  induction k with
  | zero => simp [argN]
  | succ k ih =>
    rcases Nat.lt_or_ge k l.length with hk | hk
    · rw [argN_snoc F l k hk]; exact argI_b h (List.getElem_mem hk) ih
    · rw [List.take_of_length_le (by omega)]; rwa [List.take_of_length_le hk] at ih
/-- One slot more: its offset, and the end behind it. -/
def basI (s : List Int × Int) (u : Int × Int) : List Int × Int := (s.1 ++ [upM s.2 u.2], upM s.2 u.2 + u.1)
def basF (a : Int) (l : List (Int × Int)) : List Int × Int := l.foldl basI ([], a)
theorem basF_snoc (a : Int) (l : List (Int × Int)) (k : Nat) (hk : k < l.length) : basF a (l.take (k + 1)) = basI (basF a (l.take k)) l[k] := by
  unfold basF
  rw [snoc_take hk, List.foldl_append]; rfl
theorem basF_len (a : Int) (l : List (Int × Int)) (k : Nat) (hk : k ≤ l.length) : (basF a (l.take k)).1.length = k := by
  induction k with
  | zero => simp [basF]
  | succ k ih =>
    rw [basF_snoc a l k (by omega)]
    unfold basI
    simp [ih (by omega)]
theorem szB_b {n : Int} (h : szB n = true) : 1 ≤ n ∧ n ≤ 16 := by
  have := of_decide_eq_true h
  omega
/-- The ends lie low. -/
theorem basF_b {a : Int} {l : List (Int × Int)} (ha : 0 ≤ a ∧ a ≤ 128) (hl : ∀ u ∈ l, slotB u.1 u.2 = true) (k : Nat) (hk : k ≤ l.length) : a ≤ (basF a (l.take k)).2 ∧ (basF a (l.take k)).2 ≤ 128 + k * 16777232 := by
  induction k with
  | zero => simp [basF]; omega
  | succ k ih =>
    have ih := ih (by omega)
    rw [basF_snoc a l k (by omega)]
    have hs := hl _ (List.getElem_mem (show k < l.length by omega))
    unfold slotB at hs
    simp only [Bool.and_eq_true] at hs
    have s := szB_b hs.1
    have p := powB_b hs.2
    have u := upM_b (basF a (l.take k)).2 (show 0 < (l[k]'(by omega)).2 by omega)
    unfold basI
    simp only
    omega
/-- What holds of each offset. -/
theorem basF_off {a : Int} {l : List (Int × Int)} (ha : 0 ≤ a ∧ a ≤ 128) (hl : ∀ u ∈ l, slotB u.1 u.2 = true) (k : Nat) (hk : k ≤ l.length) : ∀ (j : Nat) (o : Int), (basF a (l.take k)).1[j]? = some o → ∃ h : j < l.length, a ≤ o ∧ (l[j]'h).2 ∣ o ∧ o + (l[j]'h).1 ≤ (basF a (l.take k)).2 := by
  induction k with
  | zero => intro j o h; simp [basF] at h
  | succ k ih =>
    intro j o h
    have hb := basF_b ha hl k (by omega)
    have hs := hl _ (List.getElem_mem (show k < l.length by omega))
    unfold slotB at hs
    simp only [Bool.and_eq_true] at hs
    have s := szB_b hs.1
    have p := powB_b hs.2
    have u := upM_b (basF a (l.take k)).2 (show 0 < (l[k]'(by omega)).2 by omega)
    rw [basF_snoc a l k (by omega)] at h ⊢
    unfold basI at h ⊢
    simp only at h ⊢
    have hlen := basF_len a l k (by omega)
    rcases Nat.lt_or_ge j k with hj | hj
    · rw [List.getElem?_append_left (by omega)] at h
      obtain ⟨h1, h2, h3, h4⟩ := ih (by omega) j o h
      exact ⟨h1, h2, h3, by omega⟩
    · rw [List.getElem?_append_right (by omega), hlen] at h
      rcases Nat.lt_or_ge (j - k) 1 with h1 | h1
      · obtain rfl : j = k := by omega
        simp at h
        subst h
        exact ⟨by omega, by omega, upM_dvd _ _, Int.le_refl _⟩
      · rw [List.getElem?_eq_none (by simpa using h1)] at h; cases h
/-- Numbers as cells. -/
theorem mod_dvd {a b : Int} (h : b ∣ a) : a % b = 0 := Int.emod_eq_zero_of_dvd h
end Go.Proofs.YtafegghdhdgioabGreat
end

section
/-
  The contract of the reference's Args (chapter 24): the bytes of the argument area. Conditions: what holds of the code of a right program.
-/
namespace Go.Proofs.YtafegghdhdgioabGreat
open Go.RowKit

set_option maxHeartbeats 2000000 in
theorem rargs_any (A : Option Addr) (n c : Nat) (hs : List Hd) (F : Pg) (lo B i : Nat) (f : Fn) (w : World) (H : Hid (PgAt w lo B A n c hs F)) (hB : B ≤ w.heap.size) (hf : Hid (F[i]? = some f)) (hok : Hid (ArgOk F f.code)) :
    Calls Tryz.prog 57 #[gv A n c, .int .i64 (i : Int)] w fun e w' => e = .returned (.int .i64 (argN F f.code * 16)) ∧ Below w.heap.size w w' := by
  have hin : i < n := by rw [← H.out.len]; exact (List.getElem?_eq_some_iff.1 hf.out).1
  obtain ⟨b, off, P, A1, n1, c1, A2, n2, c2, f', rfl, hb, e1, -, h, p0, p1, p2⟩ := fn_at H.out hin
  obtain rfl : f' = f := by rw [hf.out] at e1; injection e1 with e1; exact e1.symm
  clear e1
  have hn := H.out.cap.2.2
  have HL := hide (show f'.code.length = n2 from h.l2)
  have HC := hide h.s2
  have hn2 : n2 ≤ 8796093022208 := h.k2.2.2
  have hbw : b < w.heap.size := by omega
  have hb1 := below1 w (.cells #[.slice (some ⟨b, off, none⟩) n c] 80)
  have R0 := Row.new w 80 [.slice (some ⟨b, off, none⟩) n c]
  obtain ⟨W1, hW1⟩ : ∃ V, w.alloc (.cells #[.slice (some ⟨b, off, none⟩) n c] 80) = V := ⟨_, rfl⟩
  rw [show ([.slice (some ⟨b, off, none⟩) n c] : List Value).toArray = #[.slice (some ⟨b, off, none⟩) n c] from rfl, hW1] at R0
  rw [hW1] at hb1
  have q2 := (hb1.cell (p := ⟨b, off + i * 3 + 2, none⟩) hbw).trans p2
  have t0 := R0.cell (k := 0) rfl
  have HW1 := hide hW1
  have HB1 := hide hb1
  have HR0 := hide R0
  have hiz : (0 : Int) ≤ (i : Int) := by omega
  have hiz' : (i : Int) < (n : Int) := by omega
  clear hW1 hb1 R0 p0 p1 p2 h
  go_enter Tryz.func57, Tryz.ntmps57
  go_upto_region 1 with (fail)
  rw [HW1.out]
  clear HW1
  go_wp2_with fail
  clear q2 t0
  go_loopw [5, 7] (fun m s wr => ∃ (k : Nat) (x : Int), k ≤ n2 ∧ s = .int .i64 k ∧ m = .int .i64 x ∧ Hid (x = argN F (f'.code.take k)) ∧ 0 ≤ x ∧ x ≤ 8 ∧ Hid (Below W1.heap.size W1 wr)) (fun _ s _ => n2 - (intOf s).toNat)
  case atStart => exact ⟨0, 0, by omega, rfl, rfl, hide rfl, by omega, by omega, hide (Below.refl _ _)⟩
  case round =>
    obtain ⟨k, x, hk, rfl, rfl, hx, x0, x1, hbr⟩ := hrel
    have HB4 := hide (HB1.out.trans (hbr.out.mono HB1.out.size))
    by_cases hlt : k < n2
    · have hkl : k < f'.code.length := by have := HL.out; omega
      have HN := hide (show argN F (f'.code.take (k + 1)) = argI F x f'.code[k] by rw [hx.out]; exact argN_snoc F f'.code k hkl)
      have hxb := argI_b hok.out (List.getElem_mem hkl) ⟨x0, x1⟩
      have HO1 := hide (hok.out.1 _ (List.getElem_mem hkl))
      have HO2 := hide (hok.out.2.1 _ (List.getElem_mem hkl))
      obtain ⟨bb, oo, rfl, hbb, y0, y1, -, -, -⟩ := ins_at (HC.out.below (HB4.out.mono hB)) hkl
      obtain ⟨z, hz⟩ : ∃ z, f'.code[k] = z := ⟨_, rfl⟩
      rw [hz] at HN HO1 HO2 y0 y1 hxb
      obtain ⟨o, a, b', d, m⟩ := z
      simp only at y0 y1
      have hkz : (0 : Int) ≤ (k : Int) := by omega
      have hkz' : (k : Int) < (n2 : Int) := by omega
      clear hz
      by_cases h18 : o = 18
      · subst h18
        obtain ⟨a0, a1⟩ := HO1.out rfl
        simp only at a0 a1
        have HM := hide (show argN F (f'.code.take (k + 1)) = max x (a + 1) by rw [HN.out, argI_arg rfl])
        rw [argI_arg rfl] at hxb
        simp only at hxb
        go_wp2_with fail
        all_goals
          go_roundw
          case rel => exact ⟨k + 1, _, by omega, by go_num, rfl, hide (by rw [HM.out] <;> omega), by omega, by omega, hbr⟩
          case measure => simp [intOf]; omega
      · have b18 : (o == 18) = false := by simpa using h18
        by_cases h22 : o = 22
        · subst h22
          obtain ⟨a0, a1⟩ := HO2.out rfl
          simp only at a0 a1
          obtain ⟨j, rfl⟩ := Int.eq_ofNat_of_zero_le a0
          obtain ⟨b2, o2, P2, A12, n12, c12, A22, n22, c22, g2, e, -, hf2, -, hd2, r0, -, -⟩ := fn_at (H.out.below (HB4.out.mono hB)) (k := j) (by have := H.out.len; omega)
          injection e with e
          injection e with e1 e2
          subst e1 e2
          have hP2 : P2 = g2.params := hd2.p
          obtain ⟨P20, P21⟩ := hok.out.2.2 g2 (List.mem_of_getElem? hf2)
          rw [← hP2] at P20 P21
          have HM := hide (show argN F (f'.code.take (k + 1)) = max x P2 by rw [HN.out, argI_call rfl rfl hf2, hP2])
          have t0 := (HR0.out.call hbr.out).cell (k := 0) rfl
          have hjn : (j : Int) < (n : Int) := by have := H.out.len; omega
          clear hf2 hd2 hP2
          have t0' := after_cell t0
          have r0' := after_cell r0
          have y1' := after_cell y1
          go_upto_region 10 with (fail)
          by_cases hmx : x ≤ P2
          · have hmm : max x P2 = P2 := by omega
            refine wp_region_after (by kernel_rfl) (by kernel_rfl) ?_
            repeat (go_big_quiet_step (fail))
            refine wpQuiet_nil ?_
            intro _ hw'
            obtain ⟨p1, hw''⟩ := hw'
            subst hw''
            have HBE := hide (below_call hbr.out p1.b)
            clear t0' r0' y1'
            go_wp2_with fail
            go_roundw
            case rel => exact ⟨k + 1, _, by omega, by go_num, rfl, hide (by rw [HM.out] <;> omega), by omega, by omega, HBE⟩
            case measure => simp [intOf]; omega
          · have hmm : max x P2 = x := by omega
            refine wp_region_after (by kernel_rfl) (by kernel_rfl) ?_
            repeat (go_big_quiet_step (fail))
            refine wpQuiet_nil ?_
            intro _ hw'
            obtain ⟨p1, hw''⟩ := hw'
            subst hw''
            have HBE := hide (below_call hbr.out p1.b)
            clear t0' r0' y1'
            go_wp2_with fail
            go_roundw
            case rel => exact ⟨k + 1, _, by omega, by go_num, rfl, hide (by rw [HM.out] <;> omega), by omega, by omega, HBE⟩
            case measure => simp [intOf]; omega
        · have b22 : (o == 22) = false := by simpa using h22
          have HM := hide (show argN F (f'.code.take (k + 1)) = x by rw [HN.out, argI_other h18 h22])
          clear h18 h22
          go_wp2_with fail
          go_roundw
          case rel => exact ⟨k + 1, x, by omega, by go_num, rfl, hide HM.out.symm, by omega, by omega, hbr⟩
          case measure => simp [intOf]; omega
    · obtain rfl : k = n2 := by omega
      have HX := hide (show x = argN F f'.code by rw [hx.out, List.take_of_length_le (by have := HL.out; omega)])
      go_wp2_with fail
      go_ret
      exact ⟨ret_int (by rw [HX.out]), HB4.out⟩
end Go.Proofs.YtafegghdhdgioabGreat
end

section
/-
  The contracts of the reference's Power. Conditions: those of the types.
-/
namespace Go.Proofs.YtafegghdhdgioabGreat
open Go.RowKit

set_option maxHeartbeats 400000 in
theorem rpower_any (n : Int) (w : World) : Calls Tryz.prog 47 #[.int .i64 n] w fun e w' => e = .returned (.bool (powB n)) ∧ w = w' := by
  go_enter Tryz.func47, Tryz.ntmps47
  go_wp2
  go_loop [3] (fun i => ∃ (k : Nat) (p : Int), k ≤ 25 ∧ Hid (p = (2 : Int) ^ k) ∧ 1 ≤ p ∧ p ≤ 33554432 ∧ i = .int .i64 p ∧ Hid (∀ j, j < k → n ≠ (2 : Int) ^ j)) (fun i => (33554432 - intOf i).toNat)
  case atStart => exact ⟨0, 1, by omega, hide rfl, by omega, by omega, rfl, hide fun j hj => by omega⟩
  case round =>
    obtain ⟨k, p, hk, hp, p0, p1, rfl, hno⟩ := hrel
    by_cases hlt : p ≤ 16777216
    · by_cases he : n = p
      · subst he
        have hr := hide (powB_iff.2 ⟨k, by
          rcases Nat.lt_or_ge 24 k with h1 | h1
          · obtain rfl : k = 25 := by omega
            have := hp.out
            omega
          · exact h1, hp.out⟩)
        go_wp2
        go_ret
        exact ⟨ret_bool hr.out.symm, rfl⟩
      · have hbe : (n == p) = false := by simpa using he
        have hk24 : k ≤ 24 := by
          rcases Nat.lt_or_ge 24 k with h1 | h1
          · obtain rfl : k = 25 := by omega
            have := hp.out
            omega
          · exact h1
        go_wp2
        go_round
        case rel =>
          refine ⟨k + 1, p * 2, by omega, hide ?_, by omega, by omega, rfl, hide fun j hj => ?_⟩
          · rw [hp.out, Int.pow_succ]
          · rcases Nat.lt_or_ge j k with h1 | h1
            · exact hno.out j h1
            · obtain rfl : j = k := by omega
              rw [← hp.out]; exact he
        case measure => simp [intOf]; omega
    · have hr : Hid (powB n = false) := by
        show powB n = false
        cases e : powB n with
        | false => rfl
        | true =>
          obtain ⟨j, hj, ej⟩ := powB_iff.1 e
          have := hp.out
          rcases Nat.lt_or_ge j k with h1 | h1
          · exact absurd ej (hno.out j h1)
          · have h2 := (two_pow_b (k := k) (by omega)).2
            omega
      go_wp2
      go_ret
      exact ⟨ret_bool hr.out.symm, rfl⟩
end Go.Proofs.YtafegghdhdgioabGreat
end

section
/-
  The contracts of the reference's Bound, Right, Inside. Conditions: those of the types.
-/
namespace Go.Proofs.YtafegghdhdgioabGreat
open Go.RowKit
attribute [local go_sem ↓] Go.wp_at_zero Go.wp_at_succ

theorem rbound_any (n : Int) (w : World) : Calls Tryz.prog 85 #[.int .i64 n] w fun e w' => e = .returned (.bool (bndB n)) ∧ w = w' := by
  go_enter Tryz.func85, Tryz.ntmps85
  by_cases h : 0 ≤ n
  · go_wp2
    go_ret
    exact ⟨ret_bool (by simp [bndB, h]), rfl⟩
  · go_wp2
    go_ret
    exact ⟨ret_bool (by simp [bndB]; omega), rfl⟩


theorem rright_any (o s : Int) (w : World) : Calls Tryz.prog 86 #[pv o s] w fun e w' => e = .returned (.bool (rightB o s)) ∧ Below w.heap.size w w' := by
  have c1 := rbound_any o
  have c2 := rbound_any s
  have hr := hide (show rightB o s = (bndB o && bndB s && decide (o + s ≤ 2147483647)) from rfl)
  cases h1 : bndB o with
  | false =>
    rw [h1] at c1 hr
    clear h1
    go_enter Tryz.func86, Tryz.ntmps86
    go_wp2_with fail
    refine (c1 _).mono ?_
    rintro e w' ⟨rfl, rfl⟩
    go_wp2_with fail
    go_ret
    exact ⟨ret_bool (by rw [hr.out]; simp), below1 _ _⟩
  | true =>
    cases h2 : bndB s with
    | false =>
      rw [h1] at c1 hr
      rw [h2] at c2 hr
      clear h1 h2
      go_enter Tryz.func86, Tryz.ntmps86
      go_wp2_with fail
      refine (c1 _).mono ?_
      rintro e w' ⟨rfl, rfl⟩
      go_wp2_with fail
      refine (c2 _).mono ?_
      rintro e w' ⟨rfl, rfl⟩
      go_wp2_with fail
      go_ret
      exact ⟨ret_bool (by rw [hr.out]; simp), below1 _ _⟩
    | true =>
      obtain ⟨x0, x1⟩ := bndB_iff.1 h1
      obtain ⟨y0, y1⟩ := bndB_iff.1 h2
      rw [h1] at c1 hr
      rw [h2] at c2 hr
      clear h1 h2
      go_enter Tryz.func86, Tryz.ntmps86
      go_wp2_with fail
      refine (c1 _).mono ?_
      rintro e w' ⟨rfl, rfl⟩
      go_wp2_with fail
      refine (c2 _).mono ?_
      rintro e w' ⟨rfl, rfl⟩
      go_wp2_with fail
      go_ret
      exact ⟨ret_bool (by rw [hr.out]; simp), below1 _ _⟩

theorem rinside_any (o s n : Int) (w : World) : Calls Tryz.prog 59 #[pv o s, .int .i64 n] w fun e w' => e = .returned (.bool (insB o s n)) ∧ Below w.heap.size w w' := by
  have c := rright_any o s
  have r1 := Row.new w 128 [.int .i64 o, .int .i64 s]
  have f1 := r1.cell (k := 0) rfl
  have f2 := r1.cell (k := 1) rfl
  cases hr : rightB o s with
  | false =>
    rw [hr] at c
    have ho := hide (show insB o s n = false by simp [insB, hr])
    clear hr r1
    go_enter Tryz.func59, Tryz.ntmps59
    go_wp2_with fail
    refine (c _).mono ?_
    rintro e w1 ⟨rfl, hb1⟩
    go_wp2_with fail
    go_ret
    exact ⟨ret_bool ho.out.symm, below_call (below1 _ _) hb1⟩
  | true =>
    rw [hr] at c
    have ho := hide (show insB o s n = decide (o + s ≤ n) by simp [insB, hr])
    obtain ⟨b3, b4, b5⟩ := rightB_iff.1 hr
    clear hr r1
    go_enter Tryz.func59, Tryz.ntmps59
    go_wp2_with fail
    refine (c _).mono ?_
    rintro e w1 ⟨rfl, hb1⟩
    have g1 := keep_cellB hb1 f1
    have g2 := keep_cellB hb1 f2
    go_wp2_with fail
    go_ret
    exact ⟨ret_bool ho.out.symm, below_call (below1 _ _) hb1⟩

end Go.Proofs.YtafegghdhdgioabGreat
end

section
/-
  The contract of the reference's Up. Conditions: those of the types.
-/
namespace Go.Proofs.YtafegghdhdgioabGreat
open Go.RowKit

set_option maxHeartbeats 800000 in
theorem rup_any (n a : Int) (w : World) : Calls Tryz.prog 58 #[.int .i64 n, .int .i64 a] w fun e w' => e = .returned (.tuple #[.int .i64 (upV n a), .int .i64 (upE n a)]) ∧ w = w' := by
  have cx := rbound_any n
  have cy := rpower_any a
  cases hx : bndB n with
  | false =>
    obtain ⟨hv, he⟩ := up_bad (n := n) (a := a) (by rw [hx]; rfl)
    rw [hx] at cx
    have Hv := hide hv
    have He := hide he
    clear hx hv he
    go_enter Tryz.func58, Tryz.ntmps58
    go_wp2_with fail
    refine (cx _).mono ?_
    rintro e w' ⟨rfl, rfl⟩
    go_wp2_with fail
    go_ret2
    exact ⟨ret_two Hv.out.symm He.out.symm, rfl⟩
  | true =>
    cases hy : powB a with
    | false =>
      obtain ⟨hv, he⟩ := up_bad (n := n) (a := a) (by rw [hx, hy]; rfl)
      rw [hx] at cx
      rw [hy] at cy
      have Hv := hide hv
      have He := hide he
      clear hx hy hv he
      go_enter Tryz.func58, Tryz.ntmps58
      go_wp2_with fail
      refine (cx _).mono ?_
      rintro e w' ⟨rfl, rfl⟩
      go_wp2_with fail
      refine (cy _).mono ?_
      rintro e w' ⟨rfl, rfl⟩
      go_wp2_with fail
      go_ret2
      exact ⟨ret_two Hv.out.symm He.out.symm, rfl⟩
    | true =>
      obtain ⟨x0, x1⟩ := bndB_iff.1 hx
      obtain ⟨y0, y1⟩ := powB_b hy
      have m0 := Int.emod_nonneg n (show a ≠ 0 by omega)
      have m1 := Int.emod_lt_of_pos n (show 0 < a by omega)
      rw [hx] at cx
      rw [hy] at cy
      have Hx := hide hx
      have Hy := hide hy
      have hane : (a == 0) = false := by simp; omega
      clear hx hy
      by_cases hz : n % a = 0
      · have hm := hide (upM_zero (show 0 < a by omega) hz)
        have hzb : (n % a != 0) = false := by simp [hz]
        clear hz
        by_cases hs : n ≤ 2147483647
        · have hr := hide (up_ok Hx.out Hy.out (by have := hm.out; omega))
          go_enter Tryz.func58, Tryz.ntmps58
          go_wp2_with fail
          refine (cx _).mono ?_
          rintro e w' ⟨rfl, rfl⟩
          go_wp2_with fail
          refine (cy _).mono ?_
          rintro e w' ⟨rfl, rfl⟩
          go_wp2_with fail
          go_ret2
          exact ⟨ret_two (by rw [hr.out.1]; exact hm.out) hr.out.2.symm, rfl⟩
        · omega
      · have hm := hide (upM_ref (show 0 < a by omega) hz)
        have hzb : (n % a != 0) = true := by simp [hz]
        clear hz
        by_cases hs : n - n % a + a ≤ 2147483647
        · have hr := hide (up_ok Hx.out Hy.out (by have := hm.out; omega))
          go_enter Tryz.func58, Tryz.ntmps58
          go_wp2_with fail
          refine (cx _).mono ?_
          rintro e w' ⟨rfl, rfl⟩
          go_wp2_with fail
          refine (cy _).mono ?_
          rintro e w' ⟨rfl, rfl⟩
          go_wp2_with fail
          go_ret2
          exact ⟨ret_two (by rw [hr.out.1]; exact hm.out) hr.out.2.symm, rfl⟩
        · have hr := hide (up_great Hx.out Hy.out (by have := hm.out; omega))
          have hg : 2147483647 < n - n % a + a := by omega
          go_enter Tryz.func58, Tryz.ntmps58
          go_wp2_with fail
          refine (cx _).mono ?_
          rintro e w' ⟨rfl, rfl⟩
          go_wp2_with fail
          refine (cy _).mono ?_
          rintro e w' ⟨rfl, rfl⟩
          go_wp2_with fail
          go_ret2
          exact ⟨ret_two hr.out.1.symm hr.out.2.symm, rfl⟩

end Go.Proofs.YtafegghdhdgioabGreat
end

section
/-
  What the program says of the type int. No function of the program is named here.
-/
namespace Go.Proofs.YtafegghdhdgioabGreat
open Go.RowKit

theorem Tryz.info3 : (Tryz.prog.info? 3).map (fun i => (i.zero, i.size, i.bytes)) = some (some (.int .i64 0), 1, 8) := by kernel_rfl
end Go.Proofs.YtafegghdhdgioabGreat
end
