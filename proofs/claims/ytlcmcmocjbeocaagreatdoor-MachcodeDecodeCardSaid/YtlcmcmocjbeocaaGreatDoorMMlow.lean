import Derived.Test.YtlcmcmocjbeocaaGreatDoorMPmem
import Derived.Test.YtlcmcmocjbeocaaGreatDoorMJrp
import Derived.Test.YtlcmcmocjbeocaaGreatDoorMBitsm
import Derived.Test.YtlcmcmocjbeocaaGreatDoorMPcon
import Derived.Deep.DeepCutAuto
import Derived.Deep.QuietTactic
import Derived.BigQuiet
import Derived.Outline
import Derived.Laws.OwnMore
import Derived.Maps.AppendAt
import Derived.Maps.Range
set_option linter.unusedVariables false
set_option linter.unusedSimpArgs false
section
/-
  The mathematics of the plain layout: argument areas, offsets one behind the other, when a layout's shape is right. No function of the program is named here.
-/
namespace Go.Proofs.YtlcmcmocjbeocaaGreatDoor
open Go.RowKit

/-- How many arguments the calls of some code need. -/
def argI (F : Pg) (n : Int) (x : Ins) : Int := if x.op = 18 then max n (x.a + 1) else if x.op = 22 then max n (((F[x.a.toNat]?).map Fn.params).getD 0) else n
def argN (F : Pg) (l : List Ins) : Int := l.foldl (argI F) 0
theorem argN_snoc (F : Pg) (l : List Ins) (k : Nat) (hk : k < l.length) : argN F (l.take (k + 1)) = argI F (argN F (l.take k)) l[k] := by
  unfold argN
  rw [snoc_take hk, List.foldl_append]; rfl
theorem argI_arg {F : Pg} {n : Int} {x : Ins} (h : x.op = 18) : argI F n x = max n (x.a + 1) := by unfold argI; rw [if_pos h]
theorem argI_call {F : Pg} {n : Int} {x : Ins} {j : Nat} {g : Fn} (h : x.op = 22) (ha : x.a = (j : Int)) (hg : F[j]? = some g) : argI F n x = max n g.params := by
  unfold argI; rw [if_neg (by omega), if_pos h, ha, Int.toNat_natCast, hg]; rfl
theorem argI_other {F : Pg} {n : Int} {x : Ins} (h : x.op ≠ 18) (h2 : x.op ≠ 22) : argI F n x = n := by unfold argI; rw [if_neg h, if_neg h2]
/-- What holds of the code of a right program. -/
def ArgOk (F : Pg) (l : List Ins) : Prop := (∀ x ∈ l, x.op = 18 → 0 ≤ x.a ∧ x.a ≤ 7) ∧ (∀ x ∈ l, x.op = 22 → 0 ≤ x.a ∧ x.a < F.length) ∧ ∀ g ∈ F, 0 ≤ g.params ∧ g.params ≤ 8
theorem argI_b {F : Pg} {l : List Ins} {x : Ins} {n : Int} (h : ArgOk F l) (hx : x ∈ l) (hn : 0 ≤ n ∧ n ≤ 8) : 0 ≤ argI F n x ∧ argI F n x ≤ 8 := by
  by_cases h18 : x.op = 18
  · rw [argI_arg h18]; have := h.1 x hx h18; omega
  · by_cases h22 : x.op = 22
    · obtain ⟨a0, a1⟩ := h.2.1 x hx h22
      obtain ⟨j, hj⟩ := Int.eq_ofNat_of_zero_le a0
      have hl : j < F.length := by omega
      rw [argI_call h22 hj (List.getElem?_eq_getElem hl)]
      have := h.2.2 F[j] (List.getElem_mem hl)
      omega
    · rw [argI_other h18 h22]; exact hn
theorem argN_b {F : Pg} {l : List Ins} (h : ArgOk F l) (k : Nat) : 0 ≤ argN F (l.take k) ∧ argN F (l.take k) ≤ 8 := by
  induction k with
  | zero => simp [argN]
  | succ k ih =>
    rcases Nat.lt_or_ge k l.length with hk | hk
    · rw [argN_snoc F l k hk]; exact argI_b h (List.getElem_mem hk) ih
    · rw [List.take_of_length_le (by omega)]; rwa [List.take_of_length_le hk] at ih
/-- One slot more: its offset, and the end behind it. -/
def basI (s : List Int × Int) (u : Int × Int) : List Int × Int := (s.1 ++ [upM s.2 u.2], upM s.2 u.2 + u.1)
def basF (a : Int) (l : List (Int × Int)) : List Int × Int := l.foldl basI ([], a)
theorem basF_snoc (a : Int) (l : List (Int × Int)) (k : Nat) (hk : k < l.length) : basF a (l.take (k + 1)) = basI (basF a (l.take k)) l[k] := by
  unfold basF
  rw [snoc_take hk, List.foldl_append]; rfl
theorem basF_len (a : Int) (l : List (Int × Int)) (k : Nat) (hk : k ≤ l.length) : (basF a (l.take k)).1.length = k := by
  induction k with
  | zero => simp [basF]
  | succ k ih =>
    rw [basF_snoc a l k (by omega)]
    unfold basI
    simp [ih (by omega)]
theorem szB_b {n : Int} (h : szB n = true) : 1 ≤ n ∧ n ≤ 16 := by
  have := of_decide_eq_true h
  omega
/-- The ends lie low. -/
theorem basF_b {a : Int} {l : List (Int × Int)} (ha : 0 ≤ a ∧ a ≤ 128) (hl : ∀ u ∈ l, slotB u.1 u.2 = true) (k : Nat) (hk : k ≤ l.length) : a ≤ (basF a (l.take k)).2 ∧ (basF a (l.take k)).2 ≤ 128 + k * 16777232 := by
  induction k with
  | zero => simp [basF]; omega
  | succ k ih =>
    have ih := ih (by omega)
    rw [basF_snoc a l k (by omega)]
    have hs := hl _ (List.getElem_mem (show k < l.length by omega))
    unfold slotB at hs
    simp only [Bool.and_eq_true] at hs
    have s := szB_b hs.1
    have p := powB_b hs.2
    have u := upM_b (basF a (l.take k)).2 (show 0 < (l[k]'(by omega)).2 by omega)
    unfold basI
    simp only
    omega
/-- What holds of each offset. -/
theorem basF_off {a : Int} {l : List (Int × Int)} (ha : 0 ≤ a ∧ a ≤ 128) (hl : ∀ u ∈ l, slotB u.1 u.2 = true) (k : Nat) (hk : k ≤ l.length) : ∀ (j : Nat) (o : Int), (basF a (l.take k)).1[j]? = some o → ∃ h : j < l.length, a ≤ o ∧ (l[j]'h).2 ∣ o ∧ o + (l[j]'h).1 ≤ (basF a (l.take k)).2 := by
  induction k with
  | zero => intro j o h; simp [basF] at h
  | succ k ih =>
    intro j o h
    have hb := basF_b ha hl k (by omega)
    have hs := hl _ (List.getElem_mem (show k < l.length by omega))
    unfold slotB at hs
    simp only [Bool.and_eq_true] at hs
    have s := szB_b hs.1
    have p := powB_b hs.2
    have u := upM_b (basF a (l.take k)).2 (show 0 < (l[k]'(by omega)).2 by omega)
    rw [basF_snoc a l k (by omega)] at h ⊢
    unfold basI at h ⊢
    simp only at h ⊢
    have hlen := basF_len a l k (by omega)
    rcases Nat.lt_or_ge j k with hj | hj
    · rw [List.getElem?_append_left (by omega)] at h
      obtain ⟨h1, h2, h3, h4⟩ := ih (by omega) j o h
      exact ⟨h1, h2, h3, by omega⟩
    · rw [List.getElem?_append_right (by omega), hlen] at h
      rcases Nat.lt_or_ge (j - k) 1 with h1 | h1
      · obtain rfl : j = k := by omega
        simp at h
        subst h
        exact ⟨by omega, by omega, upM_dvd _ _, Int.le_refl _⟩
      · rw [List.getElem?_eq_none (by simpa using h1)] at h; cases h
/-- Numbers as cells. -/
theorem mod_dvd {a b : Int} (h : b ∣ a) : a % b = 0 := Int.emod_eq_zero_of_dvd h
end Go.Proofs.YtlcmcmocjbeocaaGreatDoor
end

section
/-
  The contract of the reference's Args (chapter 24): the bytes of the argument area. Conditions: what holds of the code of a right program.
-/
namespace Go.Proofs.YtlcmcmocjbeocaaGreatDoor
open Go.RowKit

set_option maxHeartbeats 2000000 in
theorem rargs_any (A : Option Addr) (n c : Nat) (hs : List Hd) (F : Pg) (lo B i : Nat) (f : Fn) (w : World) (H : Hid (PgAt w lo B A n c hs F)) (hB : B ≤ w.heap.size) (hf : Hid (F[i]? = some f)) (hok : Hid (ArgOk F f.code)) :
    Calls Tryz.prog 107 #[gv A n c, .int .i64 (i : Int)] w fun e w' => e = .returned (.int .i64 (argN F f.code * 16)) ∧ Below w.heap.size w w' := by
  have hin : i < n := by rw [← H.out.len]; exact (List.getElem?_eq_some_iff.1 hf.out).1
  obtain ⟨b, off, P, A1, n1, c1, A2, n2, c2, f', rfl, hb, e1, -, h, p0, p1, p2⟩ := fn_at H.out hin
  obtain rfl : f' = f := by rw [hf.out] at e1; injection e1 with e1; exact e1.symm
  clear e1
  have hn := H.out.cap.2.2
  have HL := hide (show f'.code.length = n2 from h.l2)
  have HC := hide h.s2
  have hn2 : n2 ≤ 8796093022208 := h.k2.2.2
  have hbw : b < w.heap.size := by omega
  have hb1 := below1 w (.cells #[.slice (some ⟨b, off, none⟩) n c] 26)
  have R0 := Row.new w 26 [.slice (some ⟨b, off, none⟩) n c]
  obtain ⟨W1, hW1⟩ : ∃ V, w.alloc (.cells #[.slice (some ⟨b, off, none⟩) n c] 26) = V := ⟨_, rfl⟩
  rw [show ([.slice (some ⟨b, off, none⟩) n c] : List Value).toArray = #[.slice (some ⟨b, off, none⟩) n c] from rfl, hW1] at R0
  rw [hW1] at hb1
  have q2 := (hb1.cell (p := ⟨b, off + i * 3 + 2, none⟩) hbw).trans p2
  have t0 := R0.cell (k := 0) rfl
  have HW1 := hide hW1
  have HB1 := hide hb1
  have HR0 := hide R0
  have hiz : (0 : Int) ≤ (i : Int) := by omega
  have hiz' : (i : Int) < (n : Int) := by omega
  clear hW1 hb1 R0 p0 p1 p2 h
  go_enter Tryz.func107, Tryz.ntmps107
  go_upto_region 1 with (fail)
  rw [HW1.out]
  clear HW1
  go_wp2_with fail
  clear q2 t0
  go_loopw [5, 7] (fun m s wr => ∃ (k : Nat) (x : Int), k ≤ n2 ∧ s = .int .i64 k ∧ m = .int .i64 x ∧ Hid (x = argN F (f'.code.take k)) ∧ 0 ≤ x ∧ x ≤ 8 ∧ Hid (Below W1.heap.size W1 wr)) (fun _ s _ => n2 - (intOf s).toNat)
  case atStart => exact ⟨0, 0, by omega, rfl, rfl, hide rfl, by omega, by omega, hide (Below.refl _ _)⟩
  case round =>
    obtain ⟨k, x, hk, rfl, rfl, hx, x0, x1, hbr⟩ := hrel
    have HB4 := hide (HB1.out.trans (hbr.out.mono HB1.out.size))
    by_cases hlt : k < n2
    · have hkl : k < f'.code.length := by have := HL.out; omega
      have HN := hide (show argN F (f'.code.take (k + 1)) = argI F x f'.code[k] by rw [hx.out]; exact argN_snoc F f'.code k hkl)
      have hxb := argI_b hok.out (List.getElem_mem hkl) ⟨x0, x1⟩
      have HO1 := hide (hok.out.1 _ (List.getElem_mem hkl))
      have HO2 := hide (hok.out.2.1 _ (List.getElem_mem hkl))
      obtain ⟨bb, oo, rfl, hbb, y0, y1, -, -, -⟩ := ins_at (HC.out.below (HB4.out.mono hB)) hkl
      obtain ⟨z, hz⟩ : ∃ z, f'.code[k] = z := ⟨_, rfl⟩
      rw [hz] at HN HO1 HO2 y0 y1 hxb
      obtain ⟨o, a, b', d, m⟩ := z
      simp only at y0 y1
      have hkz : (0 : Int) ≤ (k : Int) := by omega
      have hkz' : (k : Int) < (n2 : Int) := by omega
      clear hz
      by_cases h18 : o = 18
      · subst h18
        obtain ⟨a0, a1⟩ := HO1.out rfl
        simp only at a0 a1
        have HM := hide (show argN F (f'.code.take (k + 1)) = max x (a + 1) by rw [HN.out, argI_arg rfl])
        rw [argI_arg rfl] at hxb
        simp only at hxb
        go_wp2_with fail
        all_goals
          go_roundw
          case rel => exact ⟨k + 1, _, by omega, by go_num, rfl, hide (by rw [HM.out] <;> omega), by omega, by omega, hbr⟩
          case measure => simp [intOf]; omega
      · have b18 : (o == 18) = false := by simpa using h18
        by_cases h22 : o = 22
        · subst h22
          obtain ⟨a0, a1⟩ := HO2.out rfl
          simp only at a0 a1
          obtain ⟨j, rfl⟩ := Int.eq_ofNat_of_zero_le a0
          obtain ⟨b2, o2, P2, A12, n12, c12, A22, n22, c22, g2, e, -, hf2, -, hd2, r0, -, -⟩ := fn_at (H.out.below (HB4.out.mono hB)) (k := j) (by have := H.out.len; omega)
          injection e with e
          injection e with e1 e2
          subst e1 e2
          have hP2 : P2 = g2.params := hd2.p
          obtain ⟨P20, P21⟩ := hok.out.2.2 g2 (List.mem_of_getElem? hf2)
          rw [← hP2] at P20 P21
          have HM := hide (show argN F (f'.code.take (k + 1)) = max x P2 by rw [HN.out, argI_call rfl rfl hf2, hP2])
          have t0 := (HR0.out.call hbr.out).cell (k := 0) rfl
          have hjn : (j : Int) < (n : Int) := by have := H.out.len; omega
          clear hf2 hd2 hP2
          have t0' := after_cell t0
          have r0' := after_cell r0
          have y1' := after_cell y1
          go_upto_region 10 with (fail)
          by_cases hmx : x ≤ P2
          · have hmm : max x P2 = P2 := by omega
            refine wp_region_after (by kernel_rfl) (by kernel_rfl) ?_
            repeat (go_big_quiet_step (fail))
            refine wpQuiet_nil ?_
            intro _ hw'
            obtain ⟨p1, hw''⟩ := hw'
            subst hw''
            have HBE := hide (below_call hbr.out p1.b)
            clear t0' r0' y1'
            go_wp2_with fail
            go_roundw
            case rel => exact ⟨k + 1, _, by omega, by go_num, rfl, hide (by rw [HM.out] <;> omega), by omega, by omega, HBE⟩
            case measure => simp [intOf]; omega
          · have hmm : max x P2 = x := by omega
            refine wp_region_after (by kernel_rfl) (by kernel_rfl) ?_
            repeat (go_big_quiet_step (fail))
            refine wpQuiet_nil ?_
            intro _ hw'
            obtain ⟨p1, hw''⟩ := hw'
            subst hw''
            have HBE := hide (below_call hbr.out p1.b)
            clear t0' r0' y1'
            go_wp2_with fail
            go_roundw
            case rel => exact ⟨k + 1, _, by omega, by go_num, rfl, hide (by rw [HM.out] <;> omega), by omega, by omega, HBE⟩
            case measure => simp [intOf]; omega
        · have b22 : (o == 22) = false := by simpa using h22
          have HM := hide (show argN F (f'.code.take (k + 1)) = x by rw [HN.out, argI_other h18 h22])
          clear h18 h22
          go_wp2_with fail
          go_roundw
          case rel => exact ⟨k + 1, x, by omega, by go_num, rfl, hide HM.out.symm, by omega, by omega, hbr⟩
          case measure => simp [intOf]; omega
    · obtain rfl : k = n2 := by omega
      have HX := hide (show x = argN F f'.code by rw [hx.out, List.take_of_length_le (by have := HL.out; omega)])
      go_wp2_with fail
      go_ret
      exact ⟨ret_int (by rw [HX.out]), HB4.out⟩
end Go.Proofs.YtlcmcmocjbeocaaGreatDoor
end

section
/-
  The contract of the reference's Up. Conditions: those of the types.
-/
namespace Go.Proofs.YtlcmcmocjbeocaaGreatDoor
open Go.RowKit

set_option maxHeartbeats 800000 in
theorem rup_any (n a : Int) (w : World) : Calls Tryz.prog 108 #[.int .i64 n, .int .i64 a] w fun e w' => e = .returned (.tuple #[.int .i64 (upV n a), .int .i64 (upE n a)]) ∧ w = w' := by
  have cx := rbound_any n
  have cy := rpower_any a
  cases hx : bndB n with
  | false =>
    obtain ⟨hv, he⟩ := up_bad (n := n) (a := a) (by rw [hx]; rfl)
    rw [hx] at cx
    have Hv := hide hv
    have He := hide he
    clear hx hv he
    go_enter Tryz.func108, Tryz.ntmps108
    go_wp2_with fail
    refine (cx _).mono ?_
    rintro e w' ⟨rfl, rfl⟩
    go_wp2_with fail
    go_ret2
    exact ⟨ret_two Hv.out.symm He.out.symm, rfl⟩
  | true =>
    cases hy : powB a with
    | false =>
      obtain ⟨hv, he⟩ := up_bad (n := n) (a := a) (by rw [hx, hy]; rfl)
      rw [hx] at cx
      rw [hy] at cy
      have Hv := hide hv
      have He := hide he
      clear hx hy hv he
      go_enter Tryz.func108, Tryz.ntmps108
      go_wp2_with fail
      refine (cx _).mono ?_
      rintro e w' ⟨rfl, rfl⟩
      go_wp2_with fail
      refine (cy _).mono ?_
      rintro e w' ⟨rfl, rfl⟩
      go_wp2_with fail
      go_ret2
      exact ⟨ret_two Hv.out.symm He.out.symm, rfl⟩
    | true =>
      obtain ⟨x0, x1⟩ := bndB_iff.1 hx
      obtain ⟨y0, y1⟩ := powB_b hy
      have m0 := Int.emod_nonneg n (show a ≠ 0 by omega)
      have m1 := Int.emod_lt_of_pos n (show 0 < a by omega)
      rw [hx] at cx
      rw [hy] at cy
      have Hx := hide hx
      have Hy := hide hy
      have hane : (a == 0) = false := by simp; omega
      clear hx hy
      by_cases hz : n % a = 0
      · have hm := hide (upM_zero (show 0 < a by omega) hz)
        have hzb : (n % a != 0) = false := by simp [hz]
        clear hz
        by_cases hs : n ≤ 2147483647
        · have hr := hide (up_ok Hx.out Hy.out (by have := hm.out; omega))
          go_enter Tryz.func108, Tryz.ntmps108
          go_wp2_with fail
          refine (cx _).mono ?_
          rintro e w' ⟨rfl, rfl⟩
          go_wp2_with fail
          refine (cy _).mono ?_
          rintro e w' ⟨rfl, rfl⟩
          go_wp2_with fail
          go_ret2
          exact ⟨ret_two (by rw [hr.out.1]; exact hm.out) hr.out.2.symm, rfl⟩
        · omega
      · have hm := hide (upM_ref (show 0 < a by omega) hz)
        have hzb : (n % a != 0) = true := by simp [hz]
        clear hz
        by_cases hs : n - n % a + a ≤ 2147483647
        · have hr := hide (up_ok Hx.out Hy.out (by have := hm.out; omega))
          go_enter Tryz.func108, Tryz.ntmps108
          go_wp2_with fail
          refine (cx _).mono ?_
          rintro e w' ⟨rfl, rfl⟩
          go_wp2_with fail
          refine (cy _).mono ?_
          rintro e w' ⟨rfl, rfl⟩
          go_wp2_with fail
          go_ret2
          exact ⟨ret_two (by rw [hr.out.1]; exact hm.out) hr.out.2.symm, rfl⟩
        · have hr := hide (up_great Hx.out Hy.out (by have := hm.out; omega))
          have hg : 2147483647 < n - n % a + a := by omega
          go_enter Tryz.func108, Tryz.ntmps108
          go_wp2_with fail
          refine (cx _).mono ?_
          rintro e w' ⟨rfl, rfl⟩
          go_wp2_with fail
          refine (cy _).mono ?_
          rintro e w' ⟨rfl, rfl⟩
          go_wp2_with fail
          go_ret2
          exact ⟨ret_two hr.out.1.symm hr.out.2.symm, rfl⟩

end Go.Proofs.YtlcmcmocjbeocaaGreatDoor
end

section
/-
  What the program says of the type int. No function of the program is named here.
-/
namespace Go.Proofs.YtlcmcmocjbeocaaGreatDoor
open Go.RowKit

theorem Tryz.info3 : (Tryz.prog.info? 3).map (fun i => (i.zero, i.size, i.bytes)) = some (some (.int .i64 0), 1, 8) := by kernel_rfl
end Go.Proofs.YtlcmcmocjbeocaaGreatDoor
end

section
/-
  The contract of the reference's Baseline (chapter 24): the plain layout of a function. Conditions: what holds of a right program of at most 6 slots a function; the alignment is one.
-/
namespace Go.Proofs.YtlcmcmocjbeocaaGreatDoor
open Go.RowKit

def BasPost (a : Int) (sl : List (Int × Int)) (al : Int) (w : World) (e : Ending) (w' : World) : Prop :=
  ∃ (A : Option Addr) (c : Nat), e = .returned (.tuple #[mv a (upM (basF a sl).2 al) A sl.length c, .int .i64 0]) ∧ w'.ownsRow w.heap.size 3 1 (.slice A sl.length c) sl.length (cellsE (basF a sl).1) ∧ Below w.heap.size w w'
theorem cellsE_one (zs : List Int) : ∀ u ∈ cellsE zs, u.oneCell' = true := by
  intro u hu
  simp only [cellsE, List.mem_map] at hu
  obtain ⟨z, _, rfl⟩ := hu
  rfl
theorem cellsE_snoc (zs : List Int) (z : Int) : cellsE (zs ++ [z]) = cellsE zs ++ [.int .i64 z] := by simp [cellsE]
theorem own_lower {w : World} {b b' : Nat} {t : TypeId} {size : Nat} {v : Value} {n : Nat} {xs : List Value} (h : w.ownsRow b t size v n xs) (hb : b' ≤ b) : w.ownsRow b' t size v n xs := by
  refine ⟨h.1, ?_⟩
  rcases h.2 with h2 | ⟨g, cap, cur, h1, h3, h4⟩
  · exact .inl h2
  · exact .inr ⟨g, cap, cur, h1, by omega, h4⟩
set_option maxRecDepth 100000 in
set_option maxHeartbeats 4000000 in
theorem rbase_any (A : Option Addr) (n c : Nat) (hs : List Hd) (F : Pg) (lo B i : Nat) (f : Fn) (al : Int) (w : World) (H : Hid (PgAt w lo B A n c hs F)) (hB : B ≤ w.heap.size) (hf : Hid (F[i]? = some f)) (hok : Hid (ArgOk F f.code)) (hsl : Hid (∀ u ∈ f.slots, slotB u.1 u.2 = true)) (h6 : f.slots.length ≤ 6) (hal : Hid (powB al = true)) :
    Calls Tryz.prog 73 #[gv A n c, .int .i64 (i : Int), .int .i64 al] w (BasPost (argN F f.code * 16) f.slots al w) := by
  obtain ⟨i0, hi, hz0, hz1, hz2⟩ := info_parts Tryz.info3
  have hin : i < n := by rw [← H.out.len]; exact (List.getElem?_eq_some_iff.1 hf.out).1
  obtain ⟨b, off, P, A1, n1, c1, A2, n2, c2, f', rfl, hb, e1, -, h, p0, p1, p2⟩ := fn_at H.out hin
  obtain rfl : f' = f := by rw [hf.out] at e1; injection e1 with e1; exact e1.symm
  clear e1
  have hn := H.out.cap.2.2
  have HL := hide (show f'.slots.length = n1 from h.l1)
  have HSL := hide h.s1
  have hab := argN_b hok.out f'.code.length
  rw [List.take_of_length_le (Nat.le_refl _)] at hab
  have ca := fun W (hb : Below w.heap.size w W) => rargs_any (some ⟨b, off, none⟩) n c hs F lo B i f' W (hide (H.out.below (hb.mono hB))) (Nat.le_trans hB hb.size) hf hok
  obtain ⟨a, ha⟩ : ∃ a, argN F f'.code * 16 = a := ⟨_, rfl⟩
  simp only [ha] at ca
  rw [ha]
  have ha0 : 0 ≤ a ∧ a ≤ 128 := by omega
  have CA := hide ca
  have hbw : b < w.heap.size := by omega
  obtain ⟨W2, hW2, hb2, hs2, r0, r1⟩ := boxes2q w [.slice (some ⟨b, off, none⟩) n c] [.int .i64 0, .int .i64 0, .slice none 0 0] 26 130
  have HW2 := hide hW2
  have HB2 := hide hb2
  have HS2 := hide hs2
  have R0 := hide r0
  have R1 := hide r1
  have t0 := r0.cell (k := 0) rfl
  have hiz : (0 : Int) ≤ (i : Int) := by omega
  have hiz' : (i : Int) < (n : Int) := by omega
  have ALB := hide (powB_b hal.out)
  clear hW2 hb2 hs2 r0 r1 h ca hab ha
  go_enter Tryz.func73, Tryz.ntmps73
  go_upto_region 1 with (fail)
  rw [HW2.out]
  clear HW2
  go_upto_region 2 with (go_at_call 107; refine (CA.out _ HB2.out).mono ?_; rintro e W3 ⟨rfl, hb3⟩)
  obtain ⟨W4, hW4⟩ : ∃ V, W3.alloc (.cells #[.int .i64 a, .int .i64 0, .slice none 0 0] 130) = V := ⟨_, rfl⟩
  have RP4 := hide (show Row W4 w.heap.size 26 [.slice (some ⟨b, off, none⟩) n c] by rw [← hW4]; exact (R0.out.call hb3).alloc _)
  have RR4 := hide (show Row W4 (w.heap.size + 1) 130 [.int .i64 0, .int .i64 0, .slice none 0 0] by rw [← hW4]; exact (R1.out.call hb3).alloc _)
  have RL4 := hide (show Row W4 W3.heap.size 130 [.int .i64 a, .int .i64 0, .slice none 0 0] by rw [← hW4]; exact Row.new W3 _ _)
  have HB4 := hide (show Below w.heap.size w W4 by rw [← hW4]; have h := below_call HB2.out hb3; exact h.alloc h.size _)
  have HS4 := hide (show w.heap.size + 1 < W3.heap.size by have := HS2.out; have := hb3.size; omega)
  rw [hW4]
  obtain ⟨g, hg⟩ : ∃ g, W3.heap.size = g := ⟨_, rfl⟩
  rw [hg] at RL4 HS4 ⊢
  clear hW4 hg hb3 t0 R0 R1 HB2 HS2 CA
  have l0 := RL4.out.cell (k := 0) rfl
  have t0 := RP4.out.cell (k := 0) rfl
  have q1 := (HB4.out.cell (p := ⟨b, off + i * 3 + 1, none⟩) hbw).trans p1
  clear p0 p1 p2
  go_wp2_with fail
  clear l0 t0 q1
  go_loopw [9, 11] (fun m s wr => ∃ (k : Nat) (x : Int) (A' : Option Addr) (c' : Nat), k ≤ n1 ∧ s = .int .i64 k ∧ m = .int .i64 x ∧ Hid (x = (basF a (f'.slots.take k)).2) ∧ Hid (wr.ownsRow W4.heap.size 3 1 (.slice A' k c') k (cellsE (basF a (f'.slots.take k)).1)) ∧ Hid (Row wr g 130 [.int .i64 a, .int .i64 0, .slice A' k c']) ∧ Hid (Row wr (w.heap.size + 1) 130 [.int .i64 0, .int .i64 0, .slice none 0 0]) ∧ Hid (Below w.heap.size w wr) ∧ Hid (W4.heap.size ≤ wr.heap.size)) (fun _ s _ => n1 - (intOf s).toNat)
  case atStart => exact ⟨0, a, none, 0, by omega, rfl, rfl, hide rfl, hide (World.ownsRow_nil _ _ _ _), RL4, RR4, HB4, hide (Nat.le_refl _)⟩
  case round =>
    obtain ⟨k, x, A', c', hk, rfl, rfl, hx, hown, hrl, hrr, hbr, hsz⟩ := hrel
    have hx1 := basF_b ha0 hsl.out k (by have := HL.out; omega)
    rw [← hx.out] at hx1
    have hx2 : x ≤ 128 + 6 * 16777232 := by have := HL.out; omega
    have hx0 : 0 ≤ x := by omega
    clear hx1
    by_cases hlt : k < n1
    · have hkl : k < f'.slots.length := by have := HL.out; omega
      have HN := hide (basF_snoc a f'.slots k hkl)
      have hsb := hsl.out _ (List.getElem_mem hkl)
      obtain ⟨bb, oo, rfl, hbb, y0, y1⟩ := pair_at (HSL.out.below (hbr.out.mono hB)) hkl
      obtain ⟨z, hz⟩ : ∃ z, f'.slots[k] = z := ⟨_, rfl⟩
      rw [hz] at HN hsb y0 y1
      obtain ⟨s, al2⟩ := z
      simp only at y0 y1 hsb
      unfold slotB at hsb
      simp only [Bool.and_eq_true] at hsb
      obtain ⟨s0, s1⟩ := szB_b hsb.1
      have hp2 := powB_b hsb.2
      have hu := upM_b x (show 0 < al2 by omega)
      have cu := rup_any x al2
      have hup := up_ok (n := x) (a := al2) (bndB_iff.2 ⟨by omega, by omega⟩) hsb.2 (by omega)
      rw [hup.1, hup.2] at cu
      have HN2 := hide (show basF a (f'.slots.take (k + 1)) = ((basF a (f'.slots.take k)).1 ++ [upM x al2], upM x al2 + s) by rw [HN.out]; unfold basI; rw [← hx.out])
      obtain ⟨at_, hat⟩ : ∃ v, upM x al2 = v := ⟨_, rfl⟩
      rw [hat] at cu HN2 hu
      have hkz : (0 : Int) ≤ (k : Int) := by omega
      have hkz' : (k : Int) < (n1 : Int) := by omega
      have hng : ¬ (2147483519 - s < at_) := by omega
      have hng' : decide (2147483519 - s < at_) = false := decide_eq_false hng
      have l2 := hrl.out.cell (k := 2) rfl
      obtain ⟨A8, c8, e8, hA8, hc8, -, hs8⟩ := own_seen hown.out
      injection e8 with e8a _ e8c
      subst e8a e8c
      have HA8 := hide hA8
      have HC8 := hide hc8
      have HS8 := hide hs8
      have HLN := hide (show (cellsE (basF a (f'.slots.take k)).1).length = k * 1 by rw [cellsE_length, basF_len a f'.slots k (by omega)]; omega)
      clear hz hsb hup hat hp2 hA8 hc8 hs8
      go_upto_region 10 with (go_at_call 108; refine (cu _).mono ?_; rintro e w' ⟨rfl, rfl⟩)
      have y0' := y0
      have hbs := hide (show B ≤ wr.heap.size from Nat.le_trans hB hbr.out.size)
      go_wp2_with (at_builtin; refine wpList_append_seesN rfl (.const (.slice none 0 0)) (.tmp 59) 34 rfl wr.heap.size 3 i0 (.int .i64 0) 1 8 Tryz.underlying34 hi hz0 hz1 hz2 rfl (by decide) (.slice none 0 0) 0 [] rfl (World.ownsRow_nil _ _ _ _) wr.heap.size A' k c' (cellsE (basF a (f'.slots.take k)).1) rfl HA8 HLN HS8 HC8 (cellsE_one _) (by unfold maxLen; omega) (by omega) (Nat.le_refl _) ?_)
      intro v1 w6 ho0 hG1
      have ho1 : w6.ownsRow wr.heap.size 3 1 v1 k (cellsE (basF a (f'.slots.take k)).1) := by simpa using ho0
      clear ho0
      have hbase7 : wr.heap.size ≤ (w6.alloc (.cells #[.int .i64 at_] 3)).heap.size := Nat.le_trans hG1.size (by simp)
      have hcel := fun (j : Nat) (u : Value) (hu : ([.int .i64 at_] : List Value)[j]? = some u) => (show (w6.alloc (.cells #[.int .i64 at_] 3)).cell? ((⟨w6.heap.size, 0, none⟩ : Addr).add j) = some u by rw [WideShapes.add_plain, Nat.zero_add]; exact (Row.new w6 3 [.int .i64 at_]).cell hu)
      have hone : ∀ u ∈ ([.int .i64 at_] : List Value), u.oneCell' = true := cellsE_one [at_]
      go_wp2_with (at_builtin; refine wpList_append_own _ rfl (.tmp 60) (.tmp 62) 34 rfl wr.heap.size 3 i0 (.int .i64 0) 1 8 Tryz.underlying34 hi hz0 hz1 hz2 rfl (by decide) v1 k (cellsE (basF a (f'.slots.take k)).1) rfl (ho1.alloc _) ⟨w6.heap.size, 0, none⟩ 1 1 [.int .i64 at_] rfl rfl hcel hone (by unfold maxLen; omega) (by omega) hbase7 ?_)
      intro v2 w7 ho2 hg2 _
      have HG7 : Hid (wr.grownBy w7 none) := hide ((hG1.trans (World.grownBy_alloc _ _ _)).andThen hg2 (fun k hk => .inl (ho1.lt k hk).1))
      rw [← cellsE_snoc] at ho2
      obtain ⟨A7, c7, rfl, -, -, -, -⟩ := own_seen ho2
      have RL7 := hide (hrl.out.grown HG7.out (fun e => by cases e))
      have RR7 := hide (hrr.out.grown HG7.out (fun e => by cases e))
      have B7 := hide (hbr.out.grown HG7.out hbr.out.size (fun k hk => by cases hk))
      have y07 := (World.cell?_of_block (HG7.out.block bb (by have := hbs.out; omega) (fun e => by cases e))).trans y0
      have l2f := RL7.out.free 2
      have l2c := RL7.out.cell (k := 2) rfl
      clear l2 y0 y1 y0'
      go_upto_region 12 with (fail)
      obtain ⟨W8, hW8⟩ : ∃ V, w7.setCell ⟨g, 2, none⟩ (.slice A7 (k + 1) c7) = V := ⟨_, rfl⟩
      have RL8 := hide (show Row W8 g 130 [.int .i64 a, .int .i64 0, .slice A7 (k + 1) c7] by rw [← hW8]; exact RL7.out.set_ 2 _)
      have RR8 := hide (show Row W8 (w.heap.size + 1) 130 [.int .i64 0, .int .i64 0, .slice none 0 0] by rw [← hW8]; exact RR7.out.far (p := ⟨g, 2, none⟩) (by have := HS4.out; simp; omega) _)
      have B8 := hide (show Below w.heap.size w W8 by rw [← hW8]; exact B7.out.setCell (p := ⟨g, 2, none⟩) (by have := HS4.out; simp; omega) _)
      have O8 := hide (show W8.ownsRow W4.heap.size 3 1 (.slice A7 (k + 1) c7) (k + 1) (cellsE (basF a (f'.slots.take (k + 1))).1) by
        rw [← hW8, HN2.out]
        exact own_lower (ownsRow_setCell_below ho2 (a := ⟨g, 2, none⟩) (by have := RL4.out.lt; have := hsz.out; simp; omega) _) hsz.out)
      have Z8 := hide (show W4.heap.size ≤ W8.heap.size by rw [← hW8]; have := HG7.out.size; have := hsz.out; simp [World.setCell]; omega)
      have y08 : W8.cell? ⟨bb, oo + k * 2, none⟩ = some (.int .i64 s) := by rw [← hW8]; exact (World.cell?_setCell_other _ _ _ _ (fun e => by have := HS4.out; injection e with e; omega)).trans y07
      rw [hW8]
      clear hW8 y07 l2f l2c RL7 RR7 B7 ho2 ho1 hG1 hg2 HG7
      have HX2 := hide (show at_ + s = (basF a (f'.slots.take (k + 1))).2 by rw [HN2.out])
      have e16 : IntKind.i64.wrap (at_ + s) = at_ + s := wrap_i64 _ (by omega) (by omega)
      go_wp2_with fail
      go_roundw
      case rel => exact ⟨k + 1, _, A7, c7, by omega, by go_num, rfl, HX2, O8, RL8, RR8, B8, Z8⟩
      case measure => simp [intOf]; omega
    · obtain rfl : k = n1 := by omega
      have HT := hide (show f'.slots.take k = f'.slots by rw [List.take_of_length_le (by have := HL.out; omega)])
      have HX := hide (show x = (basF a f'.slots).2 by rw [hx.out, HT.out])
      have hau := ALB.out
      have hu := upM_b x (show 0 < al by omega)
      have cu := rup_any x al
      have hup := up_ok (n := x) (a := al) (bndB_iff.2 ⟨by omega, by omega⟩) hal.out (by omega)
      rw [hup.1, hup.2] at cu
      obtain ⟨sz, hsze⟩ : ∃ v, upM x al = v := ⟨_, rfl⟩
      rw [hsze] at cu hu
      have HZ := hide (show upM (basF a f'.slots).2 al = sz by rw [← HX.out, hsze])
      have hng : ¬ (2147483519 < sz) := by omega
      have hng' : decide (2147483519 < sz) = false := decide_eq_false hng
      clear hup hsze hu hau
      have l1f := hrl.out.free 1
      have l1c := hrl.out.cell (k := 1) rfl
      go_upto_region 17 with (go_at_call 108; refine (cu _).mono ?_; rintro e w' ⟨rfl, rfl⟩)
      obtain ⟨W8, hW8⟩ : ∃ V, wr.setCell ⟨g, 1, none⟩ (.int .i64 sz) = V := ⟨_, rfl⟩
      have RL8 := hide (show Row W8 g 130 [.int .i64 a, .int .i64 sz, .slice A' k c'] by rw [← hW8]; exact hrl.out.set_ 1 _)
      have RR8 := hide (show Row W8 (w.heap.size + 1) 130 [.int .i64 0, .int .i64 0, .slice none 0 0] by rw [← hW8]; exact hrr.out.far (p := ⟨g, 1, none⟩) (by have := HS4.out; simp; omega) _)
      have B8 := hide (show Below w.heap.size w W8 by rw [← hW8]; exact hbr.out.setCell (p := ⟨g, 1, none⟩) (by have := HS4.out; simp; omega) _)
      have O8 := hide (show W8.ownsRow W4.heap.size 3 1 (.slice A' k c') k (cellsE (basF a f'.slots).1) by
        rw [← hW8, ← HT.out]
        exact ownsRow_setCell_below hown.out (a := ⟨g, 1, none⟩) (by have := RL4.out.lt; simp; omega) _)
      rw [hW8]
      clear hW8 l1f l1c
      have u0 := RL8.out.cell (k := 0) rfl
      have u1 := RL8.out.cell (k := 1) rfl
      have u2 := RL8.out.cell (k := 2) rfl
      have v0 := RR8.out.cell (k := 0) rfl
      have v1 := RR8.out.cell (k := 1) rfl
      have v2 := RR8.out.cell (k := 2) rfl
      have z0 := RR8.out.free 0
      have z1 := RR8.out.free 1
      have z2 := RR8.out.free 2
      go_wp2_with fail
      obtain ⟨W9, hW9⟩ : ∃ V, ((W8.setCell ⟨w.heap.size + 1, 0, none⟩ (.int .i64 a)).setCell ⟨w.heap.size + 1, 1, none⟩ (.int .i64 sz)).setCell ⟨w.heap.size + 1, 2, none⟩ (.slice A' k c') = V := ⟨_, rfl⟩
      have R9 : Row W9 (w.heap.size + 1) 130 [.int .i64 a, .int .i64 sz, .slice A' k c'] := by rw [← hW9]; exact ((RR8.out.set_ 0 _).set_ 1 _).set_ 2 _
      have B9 : Below w.heap.size w W9 := by rw [← hW9]; exact ((B8.out.setCell (p := ⟨w.heap.size + 1, 0, none⟩) (by simp) _).setCell (p := ⟨w.heap.size + 1, 1, none⟩) (by simp) _).setCell (p := ⟨w.heap.size + 1, 2, none⟩) (by simp) _
      have hl4 := RR4.out.lt
      have O9 : W9.ownsRow w.heap.size 3 1 (.slice A' k c') k (cellsE (basF a f'.slots).1) := by
        rw [← hW9]
        exact own_lower (ownsRow_setCell_below (ownsRow_setCell_below (ownsRow_setCell_below O8.out (a := ⟨w.heap.size + 1, 0, none⟩) (by simp; omega) _) (a := ⟨w.heap.size + 1, 1, none⟩) (by simp; omega) _) (a := ⟨w.heap.size + 1, 2, none⟩) (by simp; omega) _) (by omega)
      rw [hW9]
      have k0 := R9.cell (k := 0) rfl
      have k1 := R9.cell (k := 1) rfl
      have k2 := R9.cell (k := 2) rfl
      refine bodyPost_ret (v := .tuple #[mv a sz A' k c', .int .i64 0]) (by simp [results, Tryz.results73, go_sem, k0, k1, k2]) rfl ?_
      unfold BasPost
      rw [HL.out, HZ.out]
      exact ⟨A', c', rfl, O9, B9⟩
end Go.Proofs.YtlcmcmocjbeocaaGreatDoor
end

section
/-
  The contract of the reference's Baselines (chapter 26): the plain layouts of all functions. Conditions: what holds of a right program of at most 6 slots a function; the alignment is one.
-/
namespace Go.Proofs.YtlcmcmocjbeocaaGreatDoor
open Go.RowKit

/-- A right program, as far as layouts ask. -/
structure LowPg (F : Pg) : Prop where
  few : F.length ≤ 80
  arg : ∀ f ∈ F, ArgOk F f.code
  slot : ∀ f ∈ F, ∀ u ∈ f.slots, slotB u.1 u.2 = true
  six : ∀ f ∈ F, f.slots.length ≤ 6
/-- The head y is the plain layout of a function. -/
structure LyRow (w : World) (base : Nat) (y : Fd) (F : Pg) (f : Fn) (al : Int) : Prop where
  p : y.p = argN F f.code * 16
  s : y.s = upM (basF (argN F f.code * 16) f.slots).2 al
  n : y.n = f.slots.length
  row : w.ownsRow base 3 1 (.slice y.a y.n y.c) y.n (cellsE (basF (argN F f.code * 16) f.slots).1)
def LyAll (w : World) (base : Nat) (ys : List Fd) (F : Pg) (al : Int) : Prop := ∀ (j : Nat) (y : Fd) (f : Fn), ys[j]? = some y → F[j]? = some f → LyRow w base y F f al
theorem own_apart {w : World} {b b' : Nat} {t t' : TypeId} {size size' : Nat} {v v' : Value} {n n' : Nat} {xs xs' : List Value} (h : w.ownsRow b t size v n xs) (h' : w.ownsRow b' t' size' v' n' xs') (ht : t ≠ t') : v.ownBlock = none ∨ v.ownBlock ≠ v'.ownBlock := by
  rcases ho : v.ownBlock with _ | k
  · exact .inl rfl
  · refine .inr fun e => ?_
    rcases h.2 with ⟨h1, _⟩ | ⟨g, cap, cur, h1, _, h2, _⟩
    · rw [h1] at ho; cases ho
    · rcases h'.2 with ⟨h3, _⟩ | ⟨g', cap', cur', h3, _, h4, _⟩
      · rw [h3] at e; cases e
      · rw [h1] at ho
        rw [h3] at e
        have e1 : g = k := by simpa [Value.ownBlock] using ho
        have e2 : g' = k := by simpa [Value.ownBlock] using e.symm
        subst e1 e2
        rw [h2] at h4
        injection h4 with h4
        injection h4 with _ h5
        exact ht h5
theorem LyRow.kept {w w' : World} {base : Nat} {y : Fd} {F : Pg} {f : Fn} {al : Int} {row : Option Nat} (h : LyRow w base y F f al) (hg : w.grownBy w' row) (hne : (Value.slice y.a y.n y.c).ownBlock = none ∨ (Value.slice y.a y.n y.c).ownBlock ≠ row) : LyRow w' base y F f al := ⟨h.p, h.s, h.n, h.row.kept hg hne⟩
theorem LyRow.call {w w' : World} {base : Nat} {y : Fd} {F : Pg} {f : Fn} {al : Int} (h : LyRow w base y F f al) (hb : Below w.heap.size w w') : LyRow w' base y F f al := h.kept (grown_below hb none) (by
  rcases ho : (Value.slice y.a y.n y.c).ownBlock with _ | k
  · exact .inl rfl
  · exact .inr (fun e => by cases e))
theorem LyAll.call {w w' : World} {base : Nat} {ys : List Fd} {F : Pg} {al : Int} (h : LyAll w base ys F al) (hb : Below w.heap.size w w') : LyAll w' base ys F al := fun j y f e1 e2 => (h j y f e1 e2).call hb
theorem LyAll.kept {w w' : World} {base : Nat} {ys : List Fd} {F : Pg} {al : Int} (h : LyAll w base ys F al) {b' : Nat} {t' : TypeId} {size' : Nat} {v' : Value} {n' : Nat} {xs' : List Value} (h' : w.ownsRow b' t' size' v' n' xs') (ht : 3 ≠ t') (hg : w.grownBy w' v'.ownBlock) : LyAll w' base ys F al := fun j y f e1 e2 => (h j y f e1 e2).kept hg (own_apart (h j y f e1 e2).row h' ht)
theorem Tryz.info130 : (Tryz.prog.info? 130).map (fun i => (i.zero, i.size, i.bytes)) = some (some (.agg #[.int .i64 0, .int .i64 0, .slice none 0 0]), 3, 40) := by kernel_rfl
def BlsPost (F : Pg) (al : Int) (n : Nat) (w : World) (e : Ending) (w' : World) : Prop :=
  ∃ (A : Option Addr) (c : Nat) (ys : List Fd), e = .returned (.tuple #[.slice A n c, .int .i64 0]) ∧ w'.ownsRow w.heap.size 130 3 (.slice A n c) n (fdcells ys) ∧ ys.length = n ∧ LyAll w' w.heap.size ys F al ∧ Below w.heap.size w w'

theorem LyAll.lower {w : World} {base base' : Nat} {ys : List Fd} {F : Pg} {al : Int} (h : LyAll w base ys F al) (hb : base' ≤ base) : LyAll w base' ys F al := fun j y f e1 e2 => ⟨(h j y f e1 e2).p, (h j y f e1 e2).s, (h j y f e1 e2).n, own_lower (h j y f e1 e2).row hb⟩
set_option maxRecDepth 100000 in
set_option maxHeartbeats 2000000 in
theorem rbases_any (A : Option Addr) (n c : Nat) (hs : List Hd) (F : Pg) (lo B : Nat) (al : Int) (w : World) (H : Hid (PgAt w lo B A n c hs F)) (hB : B ≤ w.heap.size) (hF : Hid (LowPg F)) (hal : Hid (powB al = true)) :
    Calls Tryz.prog 43 #[gv A n c, .int .i64 al] w (BlsPost F al n w) := by
  obtain ⟨i0, hi, hz0, hz1, hz2⟩ := info_parts Tryz.info130
  have HL := hide H.out.len
  have h80 : n ≤ 80 := by have := hF.out.few; have := HL.out; omega
  have hb1 := below1 w (.cells #[.slice A n c] 26)
  have R0 := Row.new w 26 [.slice A n c]
  obtain ⟨W1, hW1⟩ : ∃ V, w.alloc (.cells #[.slice A n c] 26) = V := ⟨_, rfl⟩
  rw [show ([.slice A n c] : List Value).toArray = #[.slice A n c] from rfl, hW1] at R0
  rw [hW1] at hb1
  have HW1 := hide hW1
  have HB1 := hide hb1
  have HR0 := hide R0
  clear hW1 hb1 R0
  go_enter Tryz.func43, Tryz.ntmps43
  go_upto_region 1 with (fail)
  rw [HW1.out]
  clear HW1
  go_wp2_with fail
  go_loopw [6, 7] (fun v s wr => ∃ (k : Nat) (A' : Option Addr) (c' : Nat) (ys : List Fd), k ≤ n ∧ s = .int .i64 k ∧ v = .slice A' k c' ∧ Hid (ys.length = k) ∧ Hid (wr.ownsRow W1.heap.size 130 3 (.slice A' k c') k (fdcells ys)) ∧ Hid (LyAll wr W1.heap.size ys F al) ∧ Hid (Below W1.heap.size W1 wr)) (fun _ s _ => n - (intOf s).toNat)
  case atStart => exact ⟨0, none, 0, [], by omega, rfl, rfl, hide rfl, hide (World.ownsRow_nil _ _ _ _), hide (fun j y f e1 e2 => by simp at e1), hide (Below.refl _ _)⟩
  case round =>
    obtain ⟨k, A', c', ys, hk, rfl, rfl, hyl, hown, hall, hbr⟩ := hrel
    have HBW := hide (HB1.out.trans (hbr.out.mono HB1.out.size))
    have t0 := (HR0.out.call hbr.out).cell (k := 0) rfl
    by_cases hlt : k < n
    · have hkl : k < F.length := by have := HL.out; omega
      have hx := List.getElem?_eq_getElem hkl
      have hm := List.getElem_mem hkl
      have cb := rbase_any A n c hs F lo B k F[k] al wr (hide (H.out.below (HBW.out.mono hB))) (Nat.le_trans hB HBW.out.size) (hide hx) (hide (hF.out.arg _ hm)) (hide (hF.out.slot _ hm)) (hF.out.six _ hm) hal
      have HX := hide hx
      obtain ⟨f, hf⟩ : ∃ f, F[k] = f := ⟨_, rfl⟩
      rw [hf] at cb HX
      have CB := hide cb
      clear cb hf hx hm
      go_upto_region 6 with (go_at_call 73; refine (CB.out).mono ?_; rintro e w3 ⟨A3, c3, rfl, ho3, hb3⟩)
      obtain ⟨a, ha⟩ : ∃ a, argN F f.code * 16 = a := ⟨_, rfl⟩
      obtain ⟨sz, hsz⟩ : ∃ a, upM (basF (argN F f.code * 16) f.slots).2 al = a := ⟨_, rfl⟩
      rw [ha] at hsz
      rw [ha, hsz]
      have HY := hide (show LyRow w3 W1.heap.size ⟨a, sz, A3, f.slots.length, c3⟩ F f al from ⟨ha.symm, by rw [ha, hsz], rfl, own_lower ho3 hbr.out.size⟩)
      obtain ⟨W4, hW4⟩ : ∃ V, w3.alloc (.cells #[.int .i64 a, .int .i64 sz, .slice A3 f.slots.length c3] 130) = V := ⟨_, rfl⟩
      have RL4 := hide (show Row W4 w3.heap.size 130 [.int .i64 a, .int .i64 sz, .slice A3 f.slots.length c3] by rw [← hW4]; exact Row.new w3 _ _)
      have hb34 : Below w3.heap.size w3 W4 := by rw [← hW4]; exact below1 _ _
      have HY4 := hide (HY.out.call hb34)
      have HA4 := hide ((hall.out.call hb3).call hb34)
      have HO4 : Hid (W4.ownsRow W1.heap.size 130 3 (.slice A' k c') k (fdcells ys)) := by
        have hg : wr.grownBy W4 none := grown_below (below_call hb3 hb34) none
        refine hide (hown.out.kept hg ?_)
        rcases ho : (Value.slice A' k c').ownBlock with _ | q
        · exact .inl rfl
        · exact .inr (fun e => by cases e)
      have HB4 := hide (show Below W1.heap.size W1 W4 from below_call (below_call hbr.out hb3) hb34)
      rw [hW4]
      clear hW4 hb34 HY hb3 ho3 t0 CB ha hsz
      have u0 := RL4.out.cell (k := 0) rfl
      have u1 := RL4.out.cell (k := 1) rfl
      have u2 := RL4.out.cell (k := 2) rfl
      have hcel := fun (j : Nat) (u : Value) (hu : ([.int .i64 a, .int .i64 sz, .slice A3 f.slots.length c3] : List Value)[j]? = some u) => (show (W4.alloc (.cells #[.int .i64 a, .int .i64 sz, .slice A3 f.slots.length c3] 130)).cell? ((⟨W4.heap.size, 0, none⟩ : Addr).add j) = some u by rw [WideShapes.add_plain, Nat.zero_add]; exact (Row.new W4 130 [.int .i64 a, .int .i64 sz, .slice A3 f.slots.length c3]).cell hu)
      have hone : ∀ u ∈ ([.int .i64 a, .int .i64 sz, .slice A3 f.slots.length c3] : List Value), u.oneCell' = true := fdcells_oneCell [⟨a, sz, A3, f.slots.length, c3⟩]
      have hbase : W1.heap.size ≤ (W4.alloc (.cells #[.int .i64 a, .int .i64 sz, .slice A3 f.slots.length c3] 130)).heap.size := by have := HB4.out.size; simp; omega
      go_wp2_with (at_builtin; refine wpList_append_own _ rfl (.tmp 27) (.tmp 29) 98 rfl W1.heap.size 130 i0 (.agg #[.int .i64 0, .int .i64 0, .slice none 0 0]) 3 40 Tryz.underlying98 hi hz0 hz1 hz2 rfl (by decide) (.slice A' k c') k (fdcells ys) rfl (HO4.out.alloc _) ⟨W4.heap.size, 0, none⟩ 1 1 [.int .i64 a, .int .i64 sz, .slice A3 f.slots.length c3] rfl rfl hcel hone (by unfold maxLen; omega) (by omega) hbase ?_)
      intro v2 w7 ho2 hg2 _
      obtain ⟨A7, c7, rfl, -, -, -, -⟩ := own_seen ho2
      have ho5 := HO4.out.alloc (.cells #[.int .i64 a, .int .i64 sz, .slice A3 f.slots.length c3] 130)
      have hb45 := below1 W4 (.cells #[.int .i64 a, .int .i64 sz, .slice A3 f.slots.length c3] 130)
      have HA7 := hide ((HA4.out.call hb45).kept ho5 (by decide) hg2)
      have HY7 := hide ((HY4.out.call hb45).kept hg2 (own_apart (HY4.out.call hb45).row ho5 (by decide)))
      have HB7 : Hid (Below W1.heap.size W1 w7) := hide ((below_call HB4.out hb45).grown hg2 (below_call HB4.out hb45).size (fun q hq => (ho5.lt q hq).1))
      have HO7 := hide (show w7.ownsRow W1.heap.size 130 3 (.slice A7 (k + 1) c7) (k + 1) (fdcells (ys ++ [⟨a, sz, A3, f.slots.length, c3⟩])) by rw [fdcells_append]; exact ho2)
      have HALL := hide (show LyAll w7 W1.heap.size (ys ++ [⟨a, sz, A3, f.slots.length, c3⟩]) F al from fun j y g e1 e2 => by
        rcases Nat.lt_or_ge j k with hj | hj
        · rw [List.getElem?_append_left (by have := hyl.out; omega)] at e1
          exact HA7.out j y g e1 e2
        · rw [List.getElem?_append_right (by have := hyl.out; omega), hyl.out] at e1
          rcases Nat.lt_or_ge (j - k) 1 with h1 | h1
          · obtain rfl : j = k := by omega
            simp at e1
            subst e1
            rw [HX.out] at e2
            injection e2 with e2
            subst e2
            exact HY7.out
          · rw [List.getElem?_eq_none (by simpa using h1)] at e1; cases e1)
      clear ho2 hg2 ho5 hb45 u0 u1 u2
      go_wp2_with fail
      go_roundw
      case rel => exact ⟨k + 1, A7, c7, _, by omega, by go_num, rfl, hide (by rw [List.length_append, hyl.out]; rfl), HO7, HALL, HB7⟩
      case measure => simp [intOf]; omega
    · obtain rfl : k = n := by omega
      go_wp2_with fail
      go_ret2
      exact ⟨A', c', ys, rfl, own_lower hown.out HB1.out.size, hyl.out, hall.out.lower HB1.out.size, HBW.out⟩
end Go.Proofs.YtlcmcmocjbeocaaGreatDoor
end
