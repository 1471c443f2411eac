import Derived.Test.YtlhaendgdeflkaaGreatDoorMHb
import Derived.Test.YtlhaendgdeflkaaGreatDoorShelf
import Derived.Test.YtlhaendgdeflkaaGreatDoorMGd
import Derived.Lib.OthersKept
import Derived.Deep.DeepCutAuto
import Derived.Lib.SmallJoins
import Derived.Laws.MakeOwn
set_option linter.unusedVariables false
set_option linter.unusedSimpArgs false
section
/-
  The program's readers of numbers (chapter 7): notDigit, decimal, digits, words. Conditions: those of the types; the library's greatest length is a number.
-/
namespace Go.Proofs.YtlhaendgdeflkaaGreatDoor
open Go.RowKit Go.Lib

/-- The marks of the letters of the operands. -/
def mkV (c : UInt8) : List UInt8 := if c = 105 ∨ c = 110 then [] else [c]
def letV (c : UInt8) : Mk := (mkV c, c == 105)
theorem marksU_let {k : Nat} (hk : k < 25) : marksU k = (lettT (k : Int)).map letV := by
  have e : ∀ k : Fin 25, marksU k.val = (lettT (k.val : Nat)).map letV := by decide
  exact e ⟨k, hk⟩
theorem mkN_let : mkN = [110].map letV := by decide
theorem mkNN_let : mkNN = [110, 110].map letV := by decide

set_option maxHeartbeats 2000000 in
theorem notdig_any (x : Nat) (W : World) : Calls Tryz.prog 117 #[.int .i32 (x : Int)] W fun e w' => e = .returned (.bool (pD x)) ∧ W = w' := by
  by_cases h1 : x < 48
  · have z1 : (x : Int) < 48 := by omega
    have hp := hide (show pD x = true by unfold pD; simp; omega)
    clear h1
    go_enter Tryz.func117, Tryz.ntmps117
    go_wp2
    go_ret
    exact ⟨ret_bool hp.out.symm, rfl⟩
  · have z1 : ¬ (x : Int) < 48 := by omega
    by_cases h2 : 57 < x
    · have z2 : (57 : Int) < (x : Int) := by omega
      have hp := hide (show pD x = true by unfold pD; simp; omega)
      clear h1 h2
      go_enter Tryz.func117, Tryz.ntmps117
      go_wp2
      go_ret
      exact ⟨ret_bool hp.out.symm, rfl⟩
    · have z2 : ¬ (57 : Int) < (x : Int) := by omega
      have hp := hide (show pD x = false by unfold pD; simp; omega)
      clear h1 h2
      go_enter Tryz.func117, Tryz.ntmps117
      go_wp2
      go_ret
      exact ⟨ret_bool hp.out.symm, rfl⟩
theorem notdig_grows (w : World) : PredGrows Tryz.prog 117 #[] pD w := fun W x _ _ => (notdig_any x W).mono fun e w' ⟨he, hw⟩ => ⟨he, hw ▸ Below.refl _ _⟩
set_option maxHeartbeats 2000000 in
theorem isblank_any (x : Nat) (W : World) : Calls Tryz.prog 48 #[.int .i32 (x : Int)] W fun e w' => e = .returned (.bool (pB x)) ∧ W = w' := by
  by_cases h1 : x = 32
  · subst h1
    go_enter Tryz.func48, Tryz.ntmps48
    go_wp2
    go_ret
    exact ⟨rfl, rfl⟩
  · by_cases h2 : x = 9
    · subst h2
      go_enter Tryz.func48, Tryz.ntmps48
      go_wp2
      go_ret
      exact ⟨rfl, rfl⟩
    · have z1 : ((x : Int) == 32) = false := by rw [beq_eq_false_iff_ne]; omega
      have z2 : ((x : Int) == 9) = false := by rw [beq_eq_false_iff_ne]; omega
      have hp := hide (show pB x = false by unfold pB; simp [h1, h2])
      clear h1 h2
      go_enter Tryz.func48, Tryz.ntmps48
      go_wp2
      go_ret
      exact ⟨ret_bool hp.out.symm, rfl⟩
theorem isblank_grows (w : World) : PredGrows Tryz.prog 48 #[] pB w := fun W x _ _ => (isblank_any x W).mono fun e w' ⟨he, hw⟩ => ⟨he, hw ▸ Below.refl _ _⟩

set_option maxHeartbeats 2000000 in
theorem decimal_any (d : List UInt8) (w : World) (hd : d.length ≤ 100000000) : Calls Tryz.prog 106 #[.string ⟨d.toArray⟩] w (BoolBelow (decB d) w) := by
  have eg := Go.Proofs.enters_of Tryz.func117 (by kernel_rfl) rfl
  by_cases l1 : d.length = 0
  · have h0 : d = [] := List.eq_nil_of_length_eq_zero l1
    subst h0
    go_enter Tryz.func106, Tryz.ntmps106
    go_wp2_with fail
    go_ret
    exact ⟨rfl, Below.refl _ _⟩
  · have z1 : ((d.length : Int) == 0) = false := by rw [beq_eq_false_iff_ne]; omega
    by_cases l2 : 20 < d.length
    · have FIN := hide (show BoolBelow (decB d) w (.returned (.bool false)) w from ⟨ret_bool (dec_long l2).symm, Below.refl _ _⟩)
      have z2 : (20 : Int) < (d.length : Int) := by omega
      clear l1 l2 eg
      go_enter Tryz.func106, Tryz.ntmps106
      go_wp2_with fail
      go_ret
      exact FIN.out
    · have z2 : ¬ ((20 : Int) < (d.length : Int)) := by omega
      have cc := Tryz.strings_ContainsFunc_grows 117 #[] eg pD ⟨d.toArray⟩ w (notdig_grows w)
      rw [contains_digits] at cc
      obtain ⟨c0, ec0⟩ : ∃ c, d[0]? = some c := ⟨d[0], List.getElem?_eq_getElem (by omega)⟩
      obtain ⟨cz, ecz⟩ : ∃ cz : Int, cz = (c0.toNat : Int) := ⟨_, rfl⟩
      have x0 := idx_at ec0 cz ecz
      rw [show (((0 : Nat) : Int)) = 0 from rfl] at x0
      have hg : d.getD 0 0 = c0 := by rw [List.getD_eq_getElem?_getD, ec0]; rfl
      have h48 : cz = 48 ↔ c0 = 48 := by rw [ecz]; exact byte_z c0 48 (by omega)
      have z3 : (0 : Int) < (d.length : Int) := by omega
      have z4 : 0 < d.length := by omega
      cases hall : d.all digC with
      | false =>
        rw [hall] at cc
        have FIN := hide (fun w' (hb : Below w.heap.size w w') => show BoolBelow (decB d) w (.returned (.bool false)) w' from ⟨ret_bool (by unfold decB; rw [hall, Bool.and_false]), hb⟩)
        clear l1 l2 eg hall hg h48 ec0 ecz
        go_enter Tryz.func106, Tryz.ntmps106
        go_wp2_with fail
        refine cc.mono ?_
        rintro e w1 ⟨rfl, hb1⟩
        have HB := hide hb1
        clear hb1 cc
        go_wp2_with fail
        go_ret
        exact FIN.out _ HB.out
      | true =>
        rw [hall] at cc
        by_cases h0 : cz = 48
        · by_cases l3 : d.length = 1
          · have FIN := hide (fun w' (hb : Below w.heap.size w w') => show BoolBelow (decB d) w (.returned (.bool true)) w' from ⟨ret_bool (dec_good (by omega) (by omega) (.inl l3) hall).symm, hb⟩)
            have z5 : ((d.length : Int) == 1) = true := by rw [beq_iff_eq]; omega
            clear l1 l2 l3 eg hall hg h48 ec0 ecz
            subst h0
            go_enter Tryz.func106, Tryz.ntmps106
            go_wp2_with fail
            refine cc.mono ?_
            rintro e w1 ⟨rfl, hb1⟩
            have HB := hide hb1
            clear hb1 cc
            go_wp2_with fail
            go_ret
            exact FIN.out _ HB.out
          · have FIN := hide (fun w' (hb : Below w.heap.size w w') => show BoolBelow (decB d) w (.returned (.bool false)) w' from ⟨ret_bool (dec_zero (by omega) (by rw [hg]; exact h48.1 h0)).symm, hb⟩)
            have z5 : ((d.length : Int) == 1) = false := by rw [beq_eq_false_iff_ne]; omega
            clear l1 l2 l3 eg hall hg h48 ec0 ecz
            subst h0
            go_enter Tryz.func106, Tryz.ntmps106
            go_wp2_with fail
            refine cc.mono ?_
            rintro e w1 ⟨rfl, hb1⟩
            have HB := hide hb1
            clear hb1 cc
            go_wp2_with fail
            go_ret
            exact FIN.out _ HB.out
        · have FIN := hide (fun w' (hb : Below w.heap.size w w') => show BoolBelow (decB d) w (.returned (.bool true)) w' from ⟨ret_bool (dec_good (by omega) (by omega) (.inr (by rw [hg]; exact fun e => h0 (h48.2 e))) hall).symm, hb⟩)
          have z5 : (cz != 48) = true := by simpa using h0
          clear l1 l2 eg hall hg h48 ec0 ecz h0
          go_enter Tryz.func106, Tryz.ntmps106
          go_wp2_with fail
          refine cc.mono ?_
          rintro e w1 ⟨rfl, hb1⟩
          have HB := hide hb1
          clear hb1 cc
          go_wp2_with fail
          go_ret
          exact FIN.out _ HB.out
end Go.Proofs.YtlhaendgdeflkaaGreatDoor
end

section
/-
  The program's digits and numbers (chapter 7). Conditions: those of the types; the letters are ASCII; the library's range error is an error.
-/
namespace Go.Proofs.YtlhaendgdeflkaaGreatDoor
open Go.RowKit Go.Lib

theorem byte_str (c : UInt8) (h : c.toNat < 128) (ci : Int) (e : ci = (c.toNat : Int)) (W : World) : (convert 5 9 (.int .u8 ci)).run Tryz.prog W = .ok (.string ⟨#[c]⟩) W := by
  have u1 := Tryz.underlying5
  have u2 := Tryz.underlying9
  subst e
  simp only [convert, run_underlying u1, run_underlying u2]
  have hv : Utf8.valid (c.toNat : Int) = true := by
    unfold Utf8.valid
    have : (c.toNat : Int) < 55296 := by omega
    simp [this]
  have h2 : Utf8.encode (c.toNat : Int) = ⟨#[c]⟩ := by
    unfold Utf8.encode
    simp [hv, h]
  simp [Conv.intToString, h2]
/-- What digits gives. -/
def DgPost (m word : List UInt8) (w : World) (e : Ending) (w' : World) : Prop :=
  ∃ dd : List UInt8, e = .returned (.tuple #[.string ⟨dd.toArray⟩, .bool (numU m word).isSome]) ∧ ((numU m word).isSome = true → decB dd = true ∧ numU m word = some (valU dd)) ∧ dd.length ≤ word.length ∧ Below w.heap.size w w'
theorem numU_none (word : List UInt8) : (numU [] word).isSome = decB word ∧ (decB word = true → numU [] word = some (valU word)) := by
  unfold numU
  simp only [List.isPrefixOf, List.length_nil, List.drop_zero, Bool.true_and]
  cases decB word <;> simp
theorem numU_one (c : UInt8) (word : List UInt8) (h : [c].isPrefixOf word = true) : (numU [c] word).isSome = decB (word.drop 1) ∧ (decB (word.drop 1) = true → numU [c] word = some (valU (word.drop 1))) := by
  unfold numU
  rw [h]
  simp only [List.length_cons, List.length_nil, Bool.true_and]
  cases decB (word.drop 1) <;> simp
theorem numU_not (c : UInt8) (word : List UInt8) (h : [c].isPrefixOf word = false) : numU [c] word = none := by
  unfold numU
  rw [h]
  simp

set_option maxHeartbeats 4000000 in
theorem digits_any (c : UInt8) (cz : Int) (ec : cz = (c.toNat : Int)) (hc : c.toNat < 128) (word : List UInt8) (hw : word.length ≤ 100000000) (w : World) :
    Calls Tryz.prog 89 #[.int .u8 cz, .string ⟨word.toArray⟩] w (DgPost (mkV c) word w) := by
  have h105 : cz = 105 ↔ c = 105 := by rw [ec]; exact byte_z c 105 (by omega)
  have h110 : cz = 110 ↔ c = 110 := by rw [ec]; exact byte_z c 110 (by omega)
  by_cases hp : cz = 105 ∨ cz = 110
  · have hm : mkV c = [] := by unfold mkV; rw [if_pos (hp.imp h105.1 h110.1)]
    rw [hm]
    obtain ⟨n1, n2⟩ := numU_none word
    have cd := decimal_any word w hw
    unfold BoolBelow at cd
    obtain ⟨b, eb⟩ : ∃ b, decB word = b := ⟨_, rfl⟩
    rw [eb] at cd
    have FIN := hide (fun w' (hb : Below w.heap.size w w') => show DgPost [] word w (.returned (.tuple #[.string ⟨word.toArray⟩, .bool b])) w' from ⟨word, by rw [n1, eb], fun h => by rw [n1] at h; exact ⟨h, n2 h⟩, Nat.le_refl _, hb⟩)
    clear h105 h110 ec hm n1 n2 eb
    rcases hp with rfl | rfl
    all_goals
      go_enter Tryz.func89, Tryz.ntmps89
      go_wp2_with fail
      refine cd.mono ?_
      rintro e w1 ⟨rfl, hb1⟩
      have HB := hide hb1
      clear hb1 cd
      go_wp2_with fail
      go_ret2
      exact FIN.out _ HB.out
  · have hm : mkV c = [c] := by unfold mkV; rw [if_neg (fun h => hp (h.imp h105.2 h110.2))]
    rw [hm]
    have z1 : (cz == 105) = false := by rw [beq_eq_false_iff_ne]; exact fun h => hp (.inl h)
    have z2 : (cz == 110) = false := by rw [beq_eq_false_iff_ne]; exact fun h => hp (.inr h)
    have hcv := byte_str c hc cz ec
    have cp := Tryz.strings_CutPrefix ⟨word.toArray⟩ ⟨#[c]⟩ w
    have e1 : (⟨word.toArray⟩ : ByteArray).data.toList = word := rfl
    have e2 : (⟨#[c]⟩ : ByteArray).data.toList = [c] := rfl
    rw [e1, e2] at cp
    unfold trimPrefix hasPrefix at cp
    cases hpre : [c].isPrefixOf word with
    | false =>
      rw [hpre] at cp
      simp only [Bool.false_eq_true, if_false] at cp
      have FIN := hide (show DgPost [c] word w (.returned (.tuple #[.string ⟨word.toArray⟩, .bool false])) w from ⟨word, by rw [numU_not c word hpre]; rfl, (fun h => by rw [numU_not c word hpre] at h; cases h), Nat.le_refl _, Below.refl _ _⟩)
      clear hp h105 h110 ec hm e1 e2 hpre
      go_enter Tryz.func89, Tryz.ntmps89
      go_wp2_with fail
      refine cp.mono ?_
      rintro e w1 ⟨rfl, rfl⟩
      go_wp2_with fail
      go_ret2
      exact FIN.out
    | true =>
      rw [hpre] at cp
      simp only [if_true, List.length_cons, List.length_nil] at cp
      obtain ⟨n1, n2⟩ := numU_one c word hpre
      have hdl : (word.drop 1).length ≤ word.length := by rw [List.length_drop]; omega
      obtain ⟨dd, edd⟩ : ∃ dd, word.drop 1 = dd := ⟨_, rfl⟩
      rw [edd] at n1 n2 hdl
      rw [show 0 + 1 = 1 from rfl, edd] at cp
      obtain ⟨b, eb⟩ : ∃ b, decB dd = b := ⟨_, rfl⟩
      have FIN := hide (fun w' (hb : Below w.heap.size w w') => show DgPost [c] word w (.returned (.tuple #[.string ⟨dd.toArray⟩, .bool b])) w' from ⟨dd, by rw [n1, eb], fun h => by rw [n1] at h; exact ⟨h, n2 h⟩, hdl, hb⟩)
      have cd := fun W => decimal_any dd W (by omega)
      unfold BoolBelow at cd
      rw [eb] at cd
      clear hp h105 h110 ec hm e1 e2 hpre n1 n2 edd eb hdl
      go_enter Tryz.func89, Tryz.ntmps89
      go_wp2_with fail
      refine cp.mono ?_
      rintro e w1 ⟨rfl, rfl⟩
      go_wp2_with fail
      refine (cd _).mono ?_
      rintro e w2 ⟨rfl, hb2⟩
      have HB := hide hb2
      clear hb2 cd
      go_wp2_with fail
      go_ret2
      exact FIN.out _ HB.out
/-- The library's range error is an error. -/
def ErrR (w : World) : Prop := ∃ te pe, w.cell? ⟨7, 0, none⟩ = some (.iface te pe)
theorem ErrR.below {w w' : World} (h : ErrR w) (hb : Below w.heap.size w w') : ErrR w' := by
  obtain ⟨te, pe, h⟩ := h
  exact ⟨te, pe, keep_cellB hb h⟩
/-- strconv.ParseUint at decimal digits. -/
def PuPost (v : Nat) (w : World) (e : Ending) (w' : World) : Prop :=
  ∃ er : Value, e = .returned (.tuple #[.int .u64 (if v < 18446744073709551616 then (v : Int) else 18446744073709551615), er]) ∧ (v < 18446744073709551616 → er = .nilIface) ∧ (¬ v < 18446744073709551616 → ∃ a b, er = .iface a (.pointer (some b))) ∧ Below w.heap.size w w'
end Go.Proofs.YtlhaendgdeflkaaGreatDoor
end

section
/-
  The program's numbers (chapter 7). Conditions: those of the types; the letters are ASCII; the library's range error is an error.
-/
namespace Go.Proofs.YtlhaendgdeflkaaGreatDoor
open Go.RowKit Go.Lib

theorem puint_any (d : List UInt8) (h : decB d = true) (hd : d.length ≤ 100000000) (w : World) (hr : ErrR w) :
    Calls Tryz.prog 90 #[.string ⟨d.toArray⟩, .int .i64 10, .int .i64 64] w (PuPost (valU d) w) := by
  obtain ⟨M, hM⟩ : ∃ M : Nat, M = 18446744073709551615 := ⟨_, rfl⟩
  have hp := parse_dec h M (hide hM)
  have hs : (⟨d.toArray⟩ : ByteArray).size = d.length := str_size d
  by_cases hv : valU d ≤ M
  · rw [if_pos hv] at hp
    refine (Tryz.strconv_ParseUint_10_at64_ok ⟨d.toArray⟩ (by rw [hs]; omega) (valU d) hp w).mono ?_
    rintro e w' ⟨rfl, hw⟩
    have hv' : valU d < 18446744073709551616 := by omega
    refine ⟨.nilIface, by rw [if_pos hv'], fun _ => rfl, fun h => absurd hv' h, ?_⟩
    rcases hw with rfl | rfl
    · exact Below.refl _ _
    · exact Joins.below_bytesWorld _ _ _ _ (Nat.le_refl _)
  · rw [if_neg hv] at hp
    obtain ⟨te, pe, hc⟩ := hr
    refine (Tryz.strconv_ParseUint_10_at64_range ⟨d.toArray⟩ (by rw [hs]; omega) hp (.iface te pe) w hc (.inr ⟨te, pe, rfl⟩)).mono ?_
    rintro e w' ⟨N, rfl, _, _, hb⟩
    have hv' : ¬ valU d < 18446744073709551616 := by omega
    exact ⟨_, by rw [if_neg hv'], fun h => absurd h hv', fun _ => ⟨_, _, rfl⟩, hb⟩

def zerosU (k : Nat) : List Value := List.replicate k (.int .u64 0)
theorem make_u64 {P : Program} {t e : TypeId} {i : TypeInfo} (ht : P.underlying t = some (.slice e)) (hi : P.info? e = some i) (hz : i.zero = some (.int .u64 0)) (hs : i.size = 1) (hb : i.bytes = 8)
    (n : Nat) (hm : n ≤ 1000) (W : World) :
    (Instr.makeSlice t (.int .i64 (n : Int)) (.int .i64 (n : Int))).run P W = .ok (.slice (some ⟨W.heap.size, 0, none⟩) n n) (W.alloc (.cells (zerosU n).toArray e)) := by
  have h := run_make W t e i _ ht hi hz .i64 .i64 (n : Int) (n : Int) (by omega) (by omega) (by rw [hb]; omega) (by omega)
  rw [h, show ((n : Int)).toNat = n by omega, hs, Nat.mul_one]
  rw [show (Value.int IntKind.u64 0).cells = #[Value.int IntKind.u64 0] from rfl, madeCells_list]
  rfl
/-- What the loop has stored. -/
def dvU (o : Option Nat) : Int := if o.getD 0 < 18446744073709551616 then ((o.getD 0 : Nat) : Int) else 18446744073709551615
def dvsU (ms : List Mk) (ws : List (List UInt8)) (k : Nat) : List Int := (List.range k).map fun j => dvU (nthU ms ws j)
def partU (ms : List Mk) (ws : List (List UInt8)) (n k : Nat) : List Value := ucells (dvsU ms ws k) ++ zerosU (n - k)
theorem partU_zero (ms : List Mk) (ws : List (List UInt8)) (n : Nat) : partU ms ws n 0 = zerosU n := by simp [partU, dvsU, ucells]
theorem dvsU_succ (ms : List Mk) (ws : List (List UInt8)) (k : Nat) : dvsU ms ws (k + 1) = dvsU ms ws k ++ [dvU (nthU ms ws k)] := by
  unfold dvsU; rw [List.range_succ, List.map_append]; rfl
theorem dvsU_len (ms : List Mk) (ws : List (List UInt8)) (k : Nat) : (ucells (dvsU ms ws k)).length = k := by simp [dvsU, ucells]
theorem partU_get (ms : List Mk) (ws : List (List UInt8)) {n k : Nat} (hk : k < n) : (partU ms ws n k)[k]? = some (.int .u64 0) := by
  unfold partU zerosU
  rw [List.getElem?_append_right (by rw [dvsU_len]; exact Nat.le_refl _), dvsU_len, Nat.sub_self, List.getElem?_replicate, if_pos (by omega)]
theorem partU_set (ms : List Mk) (ws : List (List UInt8)) {n k : Nat} (hk : k < n) : (partU ms ws n k).set k (.int .u64 (dvU (nthU ms ws k))) = partU ms ws n (k + 1) := by
  unfold partU zerosU
  rw [List.set_append_right _ _ (by rw [dvsU_len]; exact Nat.le_refl _), dvsU_len, Nat.sub_self, show n - k = (n - (k + 1)) + 1 by omega, List.replicate_succ, List.set_cons_zero, dvsU_succ, ucells_app, List.append_assoc]
  rfl
theorem dvsU_good {ms : List Mk} {ws : List (List UInt8)} (h : numsE ms ws = 0) : dvsU ms ws ms.length = numsI ms ws := by
  unfold dvsU numsI numsV
  rw [List.map_map]
  refine List.map_congr_left fun k hk => ?_
  have hk' : k < ms.length := by simpa using hk
  have h1 := numsV_lt h hk'
  rw [List.getD_eq_getElem?_getD, numsV_at hk'] at h1
  have h2 : limU (ms.getD k ([], false)).2 ≤ 18446744073709551616 := by unfold limU; split <;> omega
  have h3 : (nthU ms ws k).getD 0 < 18446744073709551616 := Nat.lt_of_lt_of_le h1 h2
  unfold dvU
  rw [if_pos h3]
  rfl
theorem row_own {w : World} {g base t : Nat} {cs : List Value} (h : Row w g t cs) (hb : base ≤ g) (n : Nat) (hn : cs.length = n) (hm : n ≤ 1000) : w.ownsRow base t 1 (.slice (some ⟨g, 0, none⟩) n n) n cs := by
  subst hn
  exact own_row h hb (by unfold maxLen; omega)
theorem fit_split {ms : List Mk} {ws : List (List UInt8)} {i v : Nat} {imm : Bool} (hfl : (ms.getD i ([], false)).2 = imm) (hs : nthU ms ws i = some v) :
    (¬ v < 18446744073709551616 ∧ fitU ms ws i = false) ∨ (v < 18446744073709551616 ∧ v ≤ 2147483647 ∧ fitU ms ws i = true) ∨ (v < 18446744073709551616 ∧ 2147483647 < v ∧ fitU ms ws i = imm) := by
  unfold fitU
  rw [hfl, hs]
  unfold limU
  simp only [Option.getD_some]
  by_cases h64 : v < 18446744073709551616
  · right
    by_cases h31 : v < 2147483648
    · left
      refine ⟨h64, by omega, decide_eq_true ?_⟩
      split <;> omega
    · right
      refine ⟨h64, by omega, ?_⟩
      cases imm with
      | true => simpa using h64
      | false => simpa using h31
  · left
    refine ⟨h64, decide_eq_false ?_⟩
    split <;> omega

set_option maxHeartbeats 8000000 in
set_option maxRecDepth 100000 in
theorem numbers_any (L : List UInt8) (A : Option Addr) (n c : Nat) (ws : List (List UInt8)) (w : World) (B : Nat) (hB : B ≤ w.heap.size) (hS : Hid (Sees w B A (wcells ws))) (hn : Hid (ws.length = n)) (hlen : Hid (∀ x ∈ ws, x.length ≤ 100000000)) (hL : Hid (∀ x ∈ L, x.toNat < 128)) (hL3 : L.length ≤ 3) (h1 : n ≤ 100000001) (hR : Hid (ErrR w)) :
    Calls Tryz.prog 65 #[.string ⟨L.toArray⟩, .slice A n c] w (NsPost (L.map letV) ws w) := by
  obtain ⟨ms, ems⟩ : ∃ ms, L.map letV = ms := ⟨_, rfl⟩
  have hml : ms.length = L.length := by rw [← ems, List.length_map]
  have hmg : ∀ i c, L[i]? = some c → ms.getD i ([], false) = letV c := fun i c h => by rw [← ems, List.getD_eq_getElem?_getD, List.getElem?_map, h]; rfl
  rw [ems]
  have HML := hide hml; have HMG := hide hmg
  clear ems hml hmg
  by_cases hne : n = L.length
  · subst hne
    obtain ⟨i0, hi, hz0, hz1, hz2⟩ := info_parts info_u64
    have hmk := make_u64 (P := Tryz.prog) Tryz.underlying93 hi hz0 hz1 hz2 L.length (by omega)
    obtain ⟨n, en⟩ : ∃ n, L.length = n := ⟨_, rfl⟩
    rw [en] at hmk hL3 h1 hn HML ⊢
    have EN := hide en
    obtain ⟨W, hW⟩ : ∃ W, w.alloc (.cells (zerosU n).toArray 42) = W := ⟨_, rfl⟩
    have HB0 := hide (show Below w.heap.size w W by rw [← hW]; exact below1 _ _)
    have R0 := hide (show Row W w.heap.size 42 (partU ms ws n 0) by rw [← hW, partU_zero]; exact Row.new w _ _)
    have HW := hide hW
    clear hi hW
    go_enter Tryz.func65, Tryz.ntmps65
    go_upto_region 5 with (fail)
    rw [HW.out]
    clear HW hmk
    go_wp2_with fail
    go_loopw [7, 8, 9, 10, 11, 12, 13, 24] (fun tv _ _ _ _ _ _ iv wr => ∃ (i : Nat) (tb : Bool), iv = .int .i64 (i : Int) ∧ tv = .bool tb ∧ i ≤ n ∧ Hid (Row wr w.heap.size 42 (partU ms ws n i)) ∧ Hid (NsI ms ws i (if tb then 4 else 0)) ∧ Hid (Below w.heap.size w wr)) (fun _ _ _ _ _ _ _ iv _ => n - (intOf iv).toNat)
    case atStart => exact ⟨0, false, rfl, rfl, Nat.zero_le _, R0, hide (NsI.start _ _), HB0⟩
    case round =>
      obtain ⟨i, tb, rfl, rfl, hin, HRw, HI, HBr⟩ := hrel
      by_cases hlt : i < n
      · have hltz : (i : Int) < (n : Int) := by omega
        have hiw : i < ws.length := by rw [hn.out]; exact hlt
        have hiL : i < L.length := by rw [EN.out]; exact hlt
        have him : i < ms.length := by rw [HML.out]; exact hlt
        obtain ⟨x, hx⟩ : ∃ x, ws[i]? = some x := ⟨ws[i], List.getElem?_eq_getElem hiw⟩
        obtain ⟨ch, hch⟩ : ∃ c, L[i]? = some c := ⟨L[i], List.getElem?_eq_getElem hiL⟩
        obtain ⟨cz, ecz⟩ : ∃ cz : Int, cz = (ch.toNat : Int) := ⟨_, rfl⟩
        have hix := idx_at hch cz ecz
        obtain ⟨b1, o1, rfl, hb1, q1⟩ := word_at (hS.out.below (HBr.out.mono hB)) hx
        have hxl := hlen.out x (List.mem_of_getElem? hx)
        have hnth : nthU ms ws i = numU (mkV ch) x := by unfold nthU; rw [HMG.out i ch hch, List.getD_eq_getElem?_getD (l := ws), hx]; rfl
        have cd := digits_any ch cz ecz (hL.out ch (List.mem_of_getElem? hch)) x hxl wr
        have hfl : (ms.getD i ([], false)).2 = (ch == 105) := by rw [HMG.out i ch hch]; rfl
        have hc105 : (cz != 105) = !(ch == 105) := by
          rw [ecz, Bool.eq_iff_iff]
          simp only [bne_iff_ne, ne_eq, Bool.not_eq_true', beq_eq_false_iff_ne]
          exact not_congr (byte_z ch 105 (by omega))
        have HNTH := hide hnth; have HFL := hide hfl; have HIM := hide him; have HXL := hide hxl
        have HC := hide hc105
        clear hiw hiL hx hch ecz hb1 hxl hnth hfl hc105
        go_wp2_with fail
        refine cd.mono ?_
        rintro e w1 ⟨dd, rfl, hdd, hdl, hb1⟩
        rw [← HNTH.out] at hdd ⊢
        have HB1 := hide (HBr.out.trans (hb1.mono HBr.out.size))
        have HR1 := hide (HRw.out.call hb1)
        cases hos : (nthU ms ws i).isSome with
        | false =>
          have FIN := hide (ns_bad (numsE_none HIM.out (by cases h : nthU ms ws i with | none => rfl | some v => rw [h] at hos; cases hos)) (.slice none 0 0) HB1.out)
          clear cd hb1 hdd hdl hos q1
          go_wp2_with fail
          go_ret2
          exact FIN.out
        | true =>
          obtain ⟨hdec, hval⟩ := hdd hos
          have hval' : nthU ms ws i = some (valU dd) := by rw [HNTH.out]; rw [← HNTH.out]; exact hval
          obtain ⟨v, ev⟩ : ∃ v, valU dd = v := ⟨_, rfl⟩
          have cp := puint_any dd hdec (by have := HXL.out; omega) w1 (hR.out.below HB1.out)
          rw [ev] at hval' cp
          have hfs := fit_split HFL.out hval'
          have hdv : dvU (nthU ms ws i) = (if v < 18446744073709551616 then (v : Int) else 18446744073709551615) := by rw [hval']; rfl
          have hset := partU_set ms ws hlt
          rw [hdv] at hset
          have HNX := hide (fun (tb' : Bool) (h : (if tb' then (4 : Int) else 0) = if fitU ms ws i = true then (if tb then 4 else 0) else 4) => NsI.next (ez' := if tb' then 4 else 0) HI.out hos h)
          obtain ⟨gz, egz⟩ : ∃ gz, fitU ms ws i = gz := ⟨_, rfl⟩
          rw [egz] at hfs HNX
          have HFS := hide hfs; have HSET := hide hset
          clear cd hb1 hdd hdl hos hdec hval hval' ev hfs hdv hset egz q1
          go_wp2_with fail
          refine cp.mono ?_
          rintro e w2 ⟨er, rfl, hn1, hn2, hb2⟩
          have HB2 := hide (HB1.out.trans (hb2.mono HB1.out.size))
          have HR2 := hide (HR1.out.call hb2)
          have r1 := HR2.out.cell (partU_get ms ws hlt)
          have r2 := HR2.out.free i
          obtain ⟨vz, evz⟩ : ∃ vz : Int, (if v < 18446744073709551616 then (v : Int) else 18446744073709551615) = vz := ⟨_, rfl⟩
          rw [evz] at HSET ⊢
          have HRS := hide (HR2.out.set_ i (.int .u64 vz))
          rw [HSET.out] at HRS
          have HBS := hide (HB2.out.setCell (p := ⟨w.heap.size, i, none⟩) (Nat.le_refl _) (.int .u64 vz))
          have HEV := hide evz
          clear cp hb2 evz
          rcases HFS.out with ⟨hbig, rfl⟩ | ⟨hsm, hle, rfl⟩ | ⟨hsm, hgt, hg⟩
          · obtain ⟨ea, eb, rfl⟩ := hn2 hbig
            clear hn1 hn2 hbig HFS HEV
            cases tb with
            | false =>
              have HN := hide (HNX.out true (by first | rfl | simp | (cases tb <;> rfl)))
              clear HNX
              go_wp2_with fail
              go_roundw
              case rel => exact ⟨i + 1, true, by go_num, rfl, by omega, HRS, HN, HBS⟩
              case measure => simp [intOf]; omega
            | true =>
              have HN := hide (HNX.out true (by first | rfl | simp | (cases tb <;> rfl)))
              clear HNX
              go_wp2_with fail
              go_roundw
              case rel => exact ⟨i + 1, true, by go_num, rfl, by omega, HRS, HN, HBS⟩
              case measure => simp [intOf]; omega
          · obtain rfl := hn1 hsm
            have hv1 : ¬ 2147483647 < vz := by have := HEV.out; rw [if_pos hsm] at this; omega
            clear hn1 hn2 hsm hle HFS HEV
            cases tb with
            | false =>
              have HN := hide (HNX.out false (by first | rfl | simp | (cases tb <;> rfl)))
              clear HNX
              go_wp2_with fail
              go_roundw
              case rel => exact ⟨i + 1, false, by go_num, rfl, by omega, HRS, HN, HBS⟩
              case measure => simp [intOf]; omega
            | true =>
              have HN := hide (HNX.out true (by first | rfl | simp | (cases tb <;> rfl)))
              clear HNX
              go_wp2_with fail
              go_roundw
              case rel => exact ⟨i + 1, true, by go_num, rfl, by omega, HRS, HN, HBS⟩
              case measure => simp [intOf]; omega
          · obtain rfl := hn1 hsm
            have hv1 : 2147483647 < vz := by have := HEV.out; rw [if_pos hsm] at this; omega
            clear hn1 hn2 hsm hgt HFS HEV
            have hcz := HC.out
            cases himm : (ch == 105) with
            | false =>
              rw [himm] at hg hcz
              subst hg
              cases tb with
              | false =>
                have HN := hide (HNX.out true (by first | rfl | simp | (cases tb <;> rfl)))
                clear HNX
                go_wp2_with fail
                go_roundw
                case rel => exact ⟨i + 1, true, by go_num, rfl, by omega, HRS, HN, HBS⟩
                case measure => simp [intOf]; omega
              | true =>
                have HN := hide (HNX.out true (by first | rfl | simp | (cases tb <;> rfl)))
                clear HNX
                go_wp2_with fail
                go_roundw
                case rel => exact ⟨i + 1, true, by go_num, rfl, by omega, HRS, HN, HBS⟩
                case measure => simp [intOf]; omega
            | true =>
              rw [himm] at hg hcz
              subst hg
              cases tb with
              | false =>
                have HN := hide (HNX.out false (by first | rfl | simp | (cases tb <;> rfl)))
                clear HNX
                go_wp2_with fail
                go_roundw
                case rel => exact ⟨i + 1, false, by go_num, rfl, by omega, HRS, HN, HBS⟩
                case measure => simp [intOf]; omega
              | true =>
                have HN := hide (HNX.out true (by first | rfl | simp | (cases tb <;> rfl)))
                clear HNX
                go_wp2_with fail
                go_roundw
                case rel => exact ⟨i + 1, true, by go_num, rfl, by omega, HRS, HN, HBS⟩
                case measure => simp [intOf]; omega
      · have hi2 : i = n := by omega
        subst hi2
        have hltz : ¬ ((i : Int) < (i : Int)) := by omega
        have hE := HI.out.fin (by rw [hn.out, HML.out]) HML.out.symm
        cases tb with
        | true =>
          have hE : (4 : Int) = numsE ms ws := hE
          have FIN := hide (show NsPost ms ws w (.returned (.tuple #[.slice none 0 0, .int .i64 4])) wr from ⟨.slice none 0 0, by rw [← hE], (fun h => by rw [← hE] at h; cases h), HBr.out⟩)
          clear hE hlt
          go_wp2_with fail
          go_ret2
          exact FIN.out
        | false =>
          have hE : (0 : Int) = numsE ms ws := hE
          have FIN := hide (show NsPost ms ws w (.returned (.tuple #[.slice (some ⟨w.heap.size, 0, none⟩) i i, .int .i64 0])) wr from ⟨_, by rw [← hE], (fun h => by
            have h2 := row_own HRw.out (Nat.le_refl _) i (by unfold partU zerosU; rw [Nat.sub_self]; simp [dvsU, ucells]) (by omega)
            have hml := HML.out
            subst hml
            have h3 : partU ms ws ms.length ms.length = ucells (numsI ms ws) := by unfold partU zerosU; rw [Nat.sub_self, dvsU_good h]; simp
            rw [h3] at h2
            exact h2), HBr.out⟩)
          clear hE hlt
          go_wp2_with fail
          go_ret2
          exact FIN.out
  · have hz : ¬ ((n : Int) = (L.length : Int)) := by omega
    have FIN := hide (ns_bad (numsE_len (ms := ms) (ws := ws) (by rw [hn.out, HML.out]; exact hne)) (.slice none 0 0) (Below.refl w.heap.size w))
    clear hne
    go_enter Tryz.func65, Tryz.ntmps65
    go_wp2_with fail
    go_ret2
    exact FIN.out
end Go.Proofs.YtlhaendgdeflkaaGreatDoor
end

section
/-
  The program's words (chapter 7): the words of any line; strings.Cut at one byte. Conditions: those of the types; the library's greatest length is a number.
-/
namespace Go.Proofs.YtlhaendgdeflkaaGreatDoor
open Go.RowKit Go.Lib

theorem index_one (c : UInt8) (l : List UInt8) : (index l [c] = -1 ∧ l.takeWhile (· != c) = l ∧ l.dropWhile (· != c) = []) ∨ (∃ k : Nat, index l [c] = (k : Int) ∧ l.takeWhile (· != c) = l.take k ∧ l.dropWhile (· != c) = c :: l.drop (k + 1)) := by
  induction l with
  | nil => left; exact ⟨rfl, rfl, rfl⟩
  | cons b r ih =>
    have hu : index (b :: r) [c] = if [c].isPrefixOf (b :: r) then 0 else if index r [c] == -1 then -1 else index r [c] + 1 := by conv => lhs; unfold index
    by_cases h : b = c
    · subst h
      right
      exact ⟨0, by rw [hu, if_pos (by simp)]; rfl, by simp, by simp⟩
    · have hne : (b != c) = true := by simpa using h
      have hp : ¬ ([c].isPrefixOf (b :: r) = true) := by simp; exact fun e => h e.symm
      rw [List.takeWhile_cons, List.dropWhile_cons, if_pos hne, if_pos hne, hu, if_neg hp]
      rcases ih with ⟨h1, h2, h3⟩ | ⟨k, h1, h2, h3⟩
      · left
        rw [h1, h2, h3]
        exact ⟨rfl, rfl, rfl⟩
      · right
        refine ⟨k + 1, ?_, by rw [h2, List.take_succ_cons], by rw [h3, List.drop_succ_cons]⟩
        rw [h1, if_neg (by simp)]
        omega
/-- strings.Cut at one byte. -/
theorem cut_one (c : UInt8) (l : List UInt8) : (l.dropWhile (· != c) = [] ∧ cut l [c] = (l.takeWhile (· != c), [], false)) ∨ (∃ t, l.dropWhile (· != c) = c :: t ∧ cut l [c] = (l.takeWhile (· != c), t, true)) := by
  rcases index_one c l with ⟨h1, h2, h3⟩ | ⟨k, h1, h2, h3⟩
  · left
    refine ⟨h3, ?_⟩
    unfold cut
    rw [h1, if_neg (by decide), h2]
  · right
    refine ⟨_, h3, ?_⟩
    unfold cut
    rw [h1, if_pos (by omega), h2]
    simp
/-- The library's greatest length is a number. -/
def MaxL (w : World) : Prop := ∃ m, w.cell? ⟨1, 0, none⟩ = some (.int .i64 m)
theorem MaxL.below {w w' : World} (h : MaxL w) (hb : Below w.heap.size w w') : MaxL w' := h.elim fun m hm => ⟨m, keep_cellB hb hm⟩
/-- strings.Cut at a string of one byte. -/
theorem cut_any (c : UInt8) (l : List UInt8) (hl : l.length ≤ 100000000) (w : World) (hM : MaxL w) :
    Calls Tryz.prog 21 #[.string ⟨l.toArray⟩, .string ⟨#[c]⟩] w fun e w' => e = .returned (.tuple #[.string ⟨(cut l [c]).1.toArray⟩, .string ⟨(cut l [c]).2.1.toArray⟩, .bool (cut l [c]).2.2]) ∧ ∃ n, w' = w.drewN n := by
  obtain ⟨m, hm⟩ := hM
  exact Tryz.strings_Cut ⟨l.toArray⟩ ⟨#[c]⟩ m w (by rw [str_size]; omega) hm

set_option maxHeartbeats 2000000 in
theorem dwords_any (l : List UInt8) (hl : l.length ≤ 100000000) (w : World) (hM : Hid (MaxL w)) :
    Calls Tryz.prog 23 #[.string ⟨l.toArray⟩] w (WordsPost (wordsU l) w) := by
  have eg := Go.Proofs.enters_of Tryz.func48 (by kernel_rfl) rfl
  have hc := cut_any 35 l hl w hM.out
  have h1 : (cut l [35]).1 = l.takeWhile (· != 35) := by
    rcases cut_one 35 l with ⟨_, h⟩ | ⟨t, _, h⟩ <;> rw [h]
  rw [h1] at hc
  have hw : wordsU l = spbU [] (l.takeWhile (· != 35)) := splU_cut l []
  have hbl : (l.takeWhile (· != 35)).length ≤ l.length := (List.takeWhile_prefix _).length_le
  obtain ⟨b, eb⟩ : ∃ b, l.takeWhile (· != 35) = b := ⟨_, rfl⟩
  rw [eb] at hc hw hbl
  have hf := fun W => Tryz.strings_FieldsFunc_grows 48 #[] eg pB ⟨b.toArray⟩ W (by rw [str_size]; omega) (isblank_grows W)
  have hws := fields_words b
  rw [← hw] at hws
  have hcells : (goFieldsP pB ⟨b.toArray⟩).map Value.string = wcells (wordsU l) := by
    rw [← hws]
    unfold wcells
    rw [List.map_map]
    exact List.map_congr_left fun x _ => rfl
  have hlen : (goFieldsP pB ⟨b.toArray⟩).length = (wordsU l).length := by rw [← hws, List.length_map]
  rw [hcells, hlen] at hf
  have FIN := hide (fun (A n : Nat) (w' : World) (h : w'.ownsRow w.heap.size 9 1 (.slice (some ⟨A, 0, none⟩) (wordsU l).length (wordsU l).length) (wordsU l).length (wcells (wordsU l))) (hb : Below w.heap.size w w') => show WordsPost (wordsU l) w (.returned (.slice (some ⟨A, 0, none⟩) (wordsU l).length (wordsU l).length)) w' from ⟨_, rfl, h, hb⟩)
  obtain ⟨x1, ex1⟩ : ∃ x, (cut l [35]).2.1 = x := ⟨_, rfl⟩
  obtain ⟨x2, ex2⟩ : ∃ x, (cut l [35]).2.2 = x := ⟨_, rfl⟩
  rw [ex1, ex2] at hc
  obtain ⟨ws, ews⟩ : ∃ ws, wordsU l = ws := ⟨_, rfl⟩
  rw [ews] at hf FIN ⊢
  clear eg h1 hw hbl eb hws hcells hlen ex1 ex2 ews
  go_enter Tryz.func23, Tryz.ntmps23
  go_wp2_with fail
  refine hc.mono ?_
  rintro e w1 ⟨rfl, q, rfl⟩
  go_wp2_with fail
  refine (hf _).mono ?_
  rintro e w2 ⟨A, rfl, hA, ho, hb⟩
  have F := hide (FIN.out A 0 w2 ho ((below_draws (Below.refl _ w) q).trans hb))
  clear hA ho hb hf hc
  go_wp2_with fail
  go_ret
  exact F.out
end Go.Proofs.YtlhaendgdeflkaaGreatDoor
end
