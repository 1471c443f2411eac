import Derived.Test.YtlhaendgdeflkaaGreatDoorMHa
import Derived.Test.YtlhaendgdeflkaaGreatDoorMGv
import Derived.Test.YtlhaendgdeflkaaGreatDoorMQopd
import Derived.Test.YtlhaendgdeflkaaGreatDoorMGd
import Derived.LoopTactic
import Derived.Deep.DeepCutAuto
set_option linter.unusedVariables false
set_option linter.unusedSimpArgs false
section
/-
  The reference's number (chapter 7): a number behind a mark, of any two strings. No condition but those of the types.
-/
namespace Go.Proofs.YtlhaendgdeflkaaGreatDoor
open Go.RowKit

/-- What a number's reading gives: its value as 64 bits keep it, whether it has the form, whether it fits. -/
def nvU (o : Option Nat) : Int := ((o.getD 0 % 18446744073709551616 : Nat) : Int)
def nfU (o : Option Nat) : Bool := match o with | none => false | some v => decide (v < 18446744073709551616)
def NumPost (o : Option Nat) (w : World) (e : Ending) (w' : World) : Prop := e = .returned (.tuple #[.int .u64 (nvU o), .bool o.isSome, .bool (nfU o)]) ∧ w = w'
theorem num_no {o : Option Nat} (h : o = none) (w : World) : NumPost o w (.returned (.tuple #[.int .u64 0, .bool false, .bool false])) w := by subst h; exact ⟨rfl, rfl⟩
theorem numU_pre {m S : List UInt8} (h : S.take m.length ≠ m) : numU m S = none := by
  unfold numU
  rw [if_neg]
  rw [Bool.and_eq_true, not_and]
  intro hp
  rw [List.isPrefixOf_iff_prefix, List.prefix_iff_eq_take] at hp
  exact absurd hp.symm h
theorem numU_dec {m S : List UInt8} (h : decB (S.drop m.length) = false) : numU m S = none := by
  unfold numU
  rw [if_neg (by simp [h])]
theorem numU_ok {m S : List UInt8} (h : S.take m.length = m) (hd : decB (S.drop m.length) = true) : numU m S = some (valU (S.drop m.length)) := by
  unfold numU
  rw [if_pos]
  rw [Bool.and_eq_true, List.isPrefixOf_iff_prefix, List.prefix_iff_eq_take]
  exact ⟨h.symm, hd⟩
theorem dec_short {d : List UInt8} (h : d.length < 1) : decB d = false := by
  unfold decB; simp only [Bool.and_eq_false_iff, decide_eq_false_iff_not]; exact .inl (.inl (.inl (by omega)))
theorem dec_long {d : List UInt8} (h : 20 < d.length) : decB d = false := by
  unfold decB; simp only [Bool.and_eq_false_iff, decide_eq_false_iff_not]; exact .inl (.inl (.inr (by omega)))
theorem dec_zero {d : List UInt8} (h : 1 < d.length) (h0 : d.getD 0 0 = 48) : decB d = false := by
  have h1 : decide (d.length = 1) = false := decide_eq_false (by omega)
  unfold decB; rw [h0, h1]; simp
theorem dec_odd {d : List UInt8} {c : UInt8} (h : c ∈ d) (hc : digC c = false) : decB d = false := by
  unfold decB
  have : d.all digC = false := by rw [List.all_eq_false]; exact ⟨c, h, by simp [hc]⟩
  rw [this, Bool.and_false]
theorem dec_good {d : List UInt8} (h1 : 1 ≤ d.length) (h2 : d.length ≤ 20) (h3 : d.length = 1 ∨ d.getD 0 0 ≠ 48) (h4 : d.all digC = true) : decB d = true := by
  unfold decB
  simp only [Bool.and_eq_true, decide_eq_true_eq, Bool.or_eq_true]
  exact ⟨⟨⟨h1, h2⟩, h3⟩, h4⟩
theorem num_step (a k : Nat) (hk : k ≤ 9) (V : Int) (hV : V = ((a % 18446744073709551616 : Nat) : Int)) (dz : Int) (hd : dz = (k : Int)) : ∃ m1 V' : Int, IntKind.u64.wrap (10 * V) = m1 ∧ IntKind.u64.wrap (m1 + dz) = V' ∧ Hid (V' = (((a * 10 + k) % 18446744073709551616 : Nat) : Int)) := by
  refine ⟨_, _, rfl, rfl, ?_⟩
  show IntKind.u64.wrap (IntKind.u64.wrap (10 * V) + dz) = _
  rw [IntKind.wrap_u64, IntKind.wrap_u64, hV, hd]
  omega
theorem num_fit (a k : Nat) (hk : k ≤ 9) (ha : a < 18446744073709551616) (V : Int) (hV : V = ((a % 18446744073709551616 : Nat) : Int)) (dz : Int) (hd : dz = (k : Int)) : ∃ q1 q2 : Int, IntKind.u64.wrap (18446744073709551615 - dz) = q1 ∧ IntKind.u64.wrap (q1.tdiv 10) = q2 ∧ Hid (V ≤ q2 ↔ a * 10 + k < 18446744073709551616) := by
  refine ⟨_, _, rfl, rfl, ?_⟩
  show V ≤ IntKind.u64.wrap ((IntKind.u64.wrap (18446744073709551615 - dz)).tdiv 10) ↔ _
  have h1 : IntKind.u64.wrap (18446744073709551615 - dz) = 18446744073709551615 - (k : Int) := by rw [IntKind.wrap_u64, hd]; omega
  rw [h1, Int.tdiv_eq_ediv_of_nonneg (by omega), IntKind.wrap_u64, hV]; omega
/-- What the loop of number keeps. -/
structure NuI (d : List UInt8) (i : Nat) (V : Int) (fb : Bool) : Prop where
  le : i ≤ d.length
  dig : (d.take i).all digC = true
  val : V = ((valU (d.take i) % 18446744073709551616 : Nat) : Int)
  fit : fb = decide (valU (d.take i) < 18446744073709551616)
theorem NuI.next {d : List UInt8} {i : Nat} {V V' : Int} {fb fb' : Bool} {c : UInt8} (h : NuI d i V fb) (hc : d[i]? = some c) (hd : digC c = true) (hV : V' = (((valU (d.take i) * 10 + (c.toNat - 48)) % 18446744073709551616 : Nat) : Int))
    (hf : fb' = decide (valU (d.take i) * 10 + (c.toNat - 48) < 18446744073709551616)) : NuI d (i + 1) V' fb' := by
  obtain ⟨hl, _⟩ := List.getElem?_eq_some_iff.1 hc
  have ht : d.take (i + 1) = d.take i ++ [c] := by rw [List.take_add_one, hc]; rfl
  refine ⟨hl, ?_, ?_, ?_⟩
  · rw [ht, List.all_append, h.dig]; simp [hd]
  · rw [ht, valU_snoc]; exact hV
  · rw [ht, valU_snoc]; exact hf

set_option maxHeartbeats 8000000 in
set_option maxRecDepth 100000 in
theorem rnumber_any (S m : List UInt8) (w : World) (hS : S.length ≤ 100000000) (hm : m.length ≤ 1000) :
    Calls Tryz.prog 72 #[.string ⟨S.toArray⟩, .string ⟨m.toArray⟩] w (NumPost (numU m S) w) := by
  by_cases hlen : S.length < m.length
  · have FIN := hide (num_no (numU_pre (m := m) (S := S) (by intro e; have := congrArg List.length e; rw [List.length_take] at this; omega)) w)
    have hz : (S.length : Int) < (m.length : Int) := by omega
    clear hlen
    go_enter Tryz.func72, Tryz.ntmps72
    go_wp2_with fail
    go_ret3
    exact FIN.out
  · have hz : ¬ ((S.length : Int) < (m.length : Int)) := by omega
    have s1 := slc_to (S := S) (i := m.length) (by omega)
    by_cases hp : S.take m.length = m
    · rw [hp] at s1
      have s2 := slc_from (S := S) (i := m.length) (by omega)
      have hd0 := @numU_dec m S
      have hd1 := @numU_ok m S hp
      have hdl : (S.drop m.length).length ≤ 100000000 := by rw [List.length_drop]; omega
      obtain ⟨d, ed⟩ : ∃ d, S.drop m.length = d := ⟨_, rfl⟩
      rw [ed] at s2 hd0 hd1 hdl
      have HD0 := hide hd0
      have HD1 := hide hd1
      clear hd0 hd1 ed hp hlen
      by_cases l1 : d.length < 1
      · have FIN := hide (num_no (HD0.out (dec_short l1)) w)
        have z1 : (d.length : Int) < 1 := by omega
        clear l1
        go_enter Tryz.func72, Tryz.ntmps72
        go_wp2_with fail
        go_ret3
        exact FIN.out
      · have z1 : ¬ ((d.length : Int) < 1) := by omega
        by_cases l2 : 20 < d.length
        · have FIN := hide (num_no (HD0.out (dec_long l2)) w)
          have z2 : (20 : Int) < (d.length : Int) := by omega
          clear l1 l2
          go_enter Tryz.func72, Tryz.ntmps72
          go_wp2_with fail
          go_ret3
          exact FIN.out
        · have z2 : ¬ ((20 : Int) < (d.length : Int)) := by omega
          obtain ⟨c0, ec0⟩ : ∃ c, d[0]? = some c := ⟨d[0], List.getElem?_eq_getElem (by omega)⟩
          obtain ⟨cz, ecz⟩ : ∃ cz : Int, cz = (c0.toNat : Int) := ⟨_, rfl⟩
          have x0 := idx_at ec0 cz ecz
          rw [show (((0 : Nat) : Int)) = 0 from rfl] at x0
          have hg : d.getD 0 0 = c0 := by rw [List.getD_eq_getElem?_getD, ec0]; rfl
          have h48 : cz = 48 ↔ c0 = 48 := by rw [ecz]; exact byte_z c0 48 (by omega)
          by_cases l3 : 1 < d.length ∧ cz = 48
          · have FIN := hide (num_no (HD0.out (dec_zero l3.1 (by rw [hg]; exact h48.1 l3.2))) w)
            have z3 : (1 : Int) < (d.length : Int) := by omega
            have z4 := l3.2
            clear l1 l2 l3 hg h48 ec0 ecz
            subst z4
            go_enter Tryz.func72, Tryz.ntmps72
            go_wp2_with fail
            go_ret3
            exact FIN.out
          · have hq : d.length = 1 ∨ d.getD 0 0 ≠ 48 := by
              rcases Nat.lt_or_ge 1 d.length with h | h
              · right; rw [hg]; intro e; exact l3 ⟨h, h48.2 e⟩
              · left; omega
            have HQ := hide hq
            have hz3 : ((1 : Int) < (d.length : Int) ∧ ¬ cz = 48) ∨ ¬ ((1 : Int) < (d.length : Int)) := by omega
            have hd20 : d.length ≤ 20 := by omega
            have hd1 := hide (show 1 ≤ d.length by omega)
            clear l1 l2 l3 hg h48 ec0 ecz hq
            go_enter Tryz.func72, Tryz.ntmps72
            rcases hz3 with ⟨z3, z4⟩ | z3
            all_goals
              go_wp2_with fail
              go_loop [7, 8, 9, 10] (fun vv fv iv _ => ∃ (i : Nat) (V : Int) (fb : Bool), vv = .int .u64 V ∧ fv = .bool fb ∧ iv = .int .i64 (i : Int) ∧ i ≤ d.length ∧ Hid (NuI d i V fb)) (fun _ _ iv _ => d.length - (intOf iv).toNat)
              case atStart => exact ⟨0, 0, true, rfl, rfl, rfl, Nat.zero_le _, hide ⟨Nat.zero_le _, rfl, rfl, rfl⟩⟩
              case round =>
                obtain ⟨i, V, fb, rfl, rfl, rfl, hid, HI⟩ := hrel
                by_cases hlt : i < d.length
                · have hltz : (i : Int) < (d.length : Int) := by omega
                  obtain ⟨c, ec⟩ : ∃ c, d[i]? = some c := ⟨d[i], List.getElem?_eq_getElem hlt⟩
                  obtain ⟨ci, eci⟩ : ∃ ci : Int, ci = (c.toNat : Int) := ⟨_, rfl⟩
                  have hx := idx_at ec ci eci
                  have E := hide ec
                  by_cases hdg : digC c = true
                  · have hb : 48 ≤ c.toNat ∧ c.toNat ≤ 57 := by unfold digC at hdg; simpa using hdg
                    obtain ⟨dz, edz⟩ : ∃ dz : Int, dz = ci - 48 := ⟨_, rfl⟩
                    have hdz : dz = ((c.toNat - 48 : Nat) : Int) := by omega
                    have b0 : ¬ ci < 48 := by omega
                    have b1 : ¬ 57 < ci := by omega
                    have b2 : 48 ≤ ci := by omega
                    have b3 : ci ≤ 57 := by omega
                    obtain ⟨m1, V', e1, e2, hV'⟩ := num_step (valU (d.take i)) (c.toNat - 48) (by omega) V HI.out.val dz hdz
                    rw [edz] at e2
                    cases fb with
                    | false =>
                      have HN := hide (HI.out.next ec hdg hV'.out (fb' := false) (by
                        have := HI.out.fit
                        have h2 := of_decide_eq_false this.symm
                        exact (decide_eq_false (by omega)).symm))
                      clear hlt ec eci hb hdz edz hV'
                      go_wp2_with fail
                      go_round
                      case rel => exact ⟨i + 1, V', false, rfl, rfl, by go_num, by omega, HN⟩
                      case measure => simp [intOf]; omega
                    | true =>
                      have h2 := of_decide_eq_true HI.out.fit.symm
                      obtain ⟨q1, q2, e3, e4, hqf⟩ := num_fit (valU (d.take i)) (c.toNat - 48) (by omega) h2 V HI.out.val dz hdz
                      rw [edz] at e3
                      by_cases hf : V ≤ q2
                      · have HN := hide (HI.out.next ec hdg hV'.out (fb' := true) (decide_eq_true (hqf.out.1 hf)).symm)
                        clear hlt ec eci hb hdz edz hV' h2 hqf
                        go_wp2_with fail
                        go_round
                        case rel => exact ⟨i + 1, V', true, rfl, rfl, by go_num, by omega, HN⟩
                        case measure => simp [intOf]; omega
                      · have HN := hide (HI.out.next ec hdg hV'.out (fb' := false) (decide_eq_false (fun h => hf (hqf.out.2 h))).symm)
                        clear hlt ec eci hb hdz edz hV' h2 hqf
                        go_wp2_with fail
                        go_round
                        case rel => exact ⟨i + 1, V', false, rfl, rfl, by go_num, by omega, HN⟩
                        case measure => simp [intOf]; omega
                  · have FIN := hide (num_no (HD0.out (dec_odd (List.mem_of_getElem? ec) (by simpa using hdg))) w)
                    have hb : ci < 48 ∨ (¬ ci < 48 ∧ 57 < ci) := by unfold digC at hdg; simp at hdg; omega
                    clear hlt ec eci hdg
                    rcases hb with b0 | ⟨b0, b1⟩
                    all_goals
                      go_wp2_with fail
                      go_ret3
                      exact FIN.out
                · have hi2 : i = d.length := by omega
                  have HV : Hid (NumPost (numU m S) w (.returned (.tuple #[.int .u64 V, .bool true, .bool fb])) w) := hide (by
                    have hal := HI.out.dig
                    have hv := HI.out.val
                    have hf := HI.out.fit
                    rw [hi2, List.take_length] at hal hv hf
                    have := HD1.out (dec_good hd1.out hd20 HQ.out hal)
                    rw [this]
                    refine ⟨?_, rfl⟩
                    rw [hv, hf]
                    rfl)
                  have hltz : ¬ ((i : Int) < (d.length : Int)) := by omega
                  clear hlt hi2
                  go_wp2_with fail
                  go_ret3
                  exact HV.out
    · have hne : (S.take m.length == m) = false := by simpa using hp
      have FIN := hide (num_no (numU_pre hp) w)
      obtain ⟨P0, eP⟩ : ∃ P, S.take m.length = P := ⟨_, rfl⟩
      rw [eP] at s1 hne hp
      clear eP hlen
      go_enter Tryz.func72, Tryz.ntmps72
      go_wp2_with fail
      go_ret3
      exact FIN.out
end Go.Proofs.YtlhaendgdeflkaaGreatDoor
end

section
/-
  The reference's split (chapter 7): the words of any line. No condition but those of the types.
-/
namespace Go.Proofs.YtlhaendgdeflkaaGreatDoor
open Go.RowKit

theorem flush_len (w : List UInt8) : (flushU w).length ≤ 1 := by unfold flushU; split <;> simp
theorem splU_len (l : List UInt8) : ∀ w, (splU w l).length ≤ l.length + 1 := by
  induction l with
  | nil => intro w; exact flush_len w
  | cons c r ih =>
    intro w
    have h1 := flush_len w
    simp only [splU]
    split
    · rw [List.length_cons]; omega
    · split
      · rw [List.length_append, List.length_cons]; have := ih []; omega
      · rw [List.length_cons]; have := ih (w ++ [c]); omega
/-- What the loop of split keeps. -/
structure SpI (l S : List UInt8) (i : Nat) (wd : List UInt8) (ws : List (List UInt8)) : Prop where
  fs : S.length ≤ l.length
  fi : i ≤ S.length + 1
  fw : wd.length ≤ i
  fm : i ≤ S.length → ws ++ splU wd (S.drop i) = wordsU l
  fe : i = S.length + 1 → ws = wordsU l
section
variable {l S : List UInt8} {i : Nat} {wd : List UInt8} {ws : List (List UInt8)}
theorem SpI.len (h : SpI l S i wd ws) : ws.length ≤ l.length + 1 := by
  have h1 := splU_len l []
  rcases Nat.lt_or_ge S.length i with h2 | h2
  · rw [h.fe (by have := h.fi; omega)]; exact h1
  · have := congrArg List.length (h.fm h2)
    rw [List.length_append] at this
    have h3 : (wordsU l).length ≤ l.length + 1 := h1
    omega
theorem SpI.start (l : List UInt8) : SpI l l 0 [] [] := ⟨Nat.le_refl _, by omega, by simp, fun _ => rfl, fun h => by omega⟩
/-- A flush at the end of what is left. -/
theorem SpI.fin (h : SpI l S i wd ws) (hi : i = S.length) : SpI l S (i + 1) [] (ws ++ flushU wd) := by
  refine ⟨h.fs, by omega, by simp, fun h' => by omega, fun _ => ?_⟩
  have := h.fm (by omega)
  rw [hi, List.drop_length] at this
  exact this
theorem SpI.hash (h : SpI l S i wd ws) (hi : S[i]? = some 35) : SpI l (S.take i) (i + 1) [] (ws ++ flushU wd) := by
  obtain ⟨hl, hc⟩ := List.getElem?_eq_some_iff.1 hi
  have ht : (S.take i).length = i := by rw [List.length_take]; omega
  refine ⟨by rw [ht]; have := h.fs; omega, by omega, by simp, fun h' => by omega, fun _ => ?_⟩
  have := h.fm (by omega)
  rw [List.drop_eq_getElem_cons hl, hc] at this
  simpa [splU] using this
theorem SpI.blank {c : UInt8} (h : SpI l S i wd ws) (hi : S[i]? = some c) (h35 : c ≠ 35) (hb : blankC c = true) : SpI l S (i + 1) [] (ws ++ flushU wd) := by
  obtain ⟨hl, hc⟩ := List.getElem?_eq_some_iff.1 hi
  refine ⟨h.fs, by omega, by simp, fun h' => ?_, fun h' => ?_⟩
  · have := h.fm (by omega)
    rw [List.drop_eq_getElem_cons hl, hc] at this
    simp only [splU, if_neg h35, hb, if_true] at this
    rw [List.append_assoc]; exact this
  · omega
theorem SpI.other {c : UInt8} (h : SpI l S i wd ws) (hi : S[i]? = some c) (h35 : c ≠ 35) (hb : blankC c = false) : SpI l S (i + 1) (wd ++ [c]) ws := by
  obtain ⟨hl, hc⟩ := List.getElem?_eq_some_iff.1 hi
  refine ⟨h.fs, by omega, by rw [List.length_append]; have := h.fw; simp; omega, fun h' => ?_, fun h' => by omega⟩
  have := h.fm (by omega)
  rw [List.drop_eq_getElem_cons hl, hc] at this
  simpa only [splU, if_neg h35, hb, Bool.false_eq_true, if_false] using this
end
theorem flush_some {w : List UInt8} (h : w ≠ []) : flushU w = [w] := by unfold flushU; rw [if_neg h]
/-- A string's length, of a value. -/
def strLen (v : Value) : Nat := match v with | .string s => s.size | _ => 0
theorem kept_words {w0 w3 w4 : World} {x : Value} {s3 : Value} {base n : Nat} {xs : List Value} (hb : Below w0.heap.size w0 w3) (own : w3.ownsRow base 9 1 s3 n xs) (hB : w0.heap.size ≤ base) (hg : (w3.alloc (.cells #[x] 9)).grownBy w4 s3.ownBlock) : Below w0.heap.size w0 w4 :=
  below_append (hb.alloc hb.size _) (own.alloc (.cells #[x] 9)) hB hg (by have := hb.size; simp; omega)

set_option maxHeartbeats 8000000 in
set_option maxRecDepth 100000 in
theorem rsplit_any (l : List UInt8) (w : World) (hl : l.length ≤ 100000000) :
    Calls Tryz.prog 25 #[.string ⟨l.toArray⟩] w (WordsPost (wordsU l) w) := by
  obtain ⟨i0, hi, hz0, hz1, hz2⟩ := info_parts info_str
  have hi' := hide hi
  have HL := hide hl
  clear hi hl
  go_enter Tryz.func25, Tryz.ntmps25
  go_wp2_with fail
  go_loopw [0, 3, 4, 5] (fun sv ov wv iv wr => ∃ (S : List UInt8) (i : Nat) (wd : List UInt8) (ws : List (List UInt8)), sv = .string ⟨S.toArray⟩ ∧ wv = .string ⟨wd.toArray⟩ ∧ iv = .int .i64 (i : Int) ∧ Hid (wr.ownsRow w.heap.size 9 1 ov ws.length (wcells ws)) ∧ Hid (Below w.heap.size w wr) ∧ Hid (SpI l S i wd ws))
    (fun sv _ _ iv _ => strLen sv + 1 - (intOf iv).toNat)
  case atStart => exact ⟨l, 0, [], [], rfl, rfl, rfl, hide (World.ownsRow_nil _ _ _ _), hide (Below.refl _ _), hide (SpI.start l)⟩
  case round =>
    obtain ⟨S, i, wd, ws, rfl, rfl, rfl, HO, HB, HI⟩ := hrel
    have hii := HI.out.fi
    have hwl := HI.out.fw
    have hsl := HI.out.fs
    have hwn := hide (show ws.length ≤ 100000001 by have := HI.out.len; have := HL.out; omega)
    have hSb := hide (show S.length ≤ 100000000 by have := HL.out; omega)
    have hWb := hide (show wd.length ≤ 100000001 by have := HL.out; omega)
    have hiz : (i : Int) ≤ 100000001 := by have := HL.out; omega
    clear hwl hsl
    by_cases h1 : S.length < i
    · have h1z : ¬ ((i : Int) ≤ (S.length : Int)) := by omega
      have HE := hide (HI.out.fe (by omega))
      have FIN := hide (show WordsPost (wordsU l) w (.returned u3) wr from ⟨u3, rfl, by rw [← HE.out]; exact HO.out, HB.out⟩)
      clear h1 hii
      go_wp2_with fail
      go_ret
      exact FIN.out
    · have h1z : (i : Int) ≤ (S.length : Int) := by omega
      by_cases h2 : i = S.length
      · have h2z : ¬ ((i : Int) < (S.length : Int)) := by omega
        have HF := hide (HI.out.fin h2)
        clear h1 h2
        by_cases hw : wd = []
        · subst hw
          have HN := hide (show SpI l S (i + 1) [] ws by have := HF.out; rw [flush_nil, List.append_nil] at this; exact this)
          go_wp2_with fail
          go_roundw
          case rel => exact ⟨S, i + 1, [], ws, rfl, rfl, by go_num, HO, HB, HN⟩
          case measure => simp [intOf, strLen, str_size]; omega
        · have hwe : (wd == []) = false := by simpa using hw
          have HN := hide (show SpI l S (i + 1) [] (ws ++ [wd]) by have := HF.out; rwa [flush_some hw] at this)
          go_wp2_with (at_builtin; refine wpList_append_own _ rfl (.tmp 50) (.tmp 52) 34 rfl w.heap.size 9 i0 (.string ⟨#[]⟩) 1 16 Tryz.underlying34 hi'.out hz0 hz1 hz2 rfl (by decide) _ ws.length (wcells ws) rfl (HO.out.alloc _) ⟨wr.heap.size, 0, none⟩ 1 1 [.string ⟨wd.toArray⟩] rfl rfl (one_new _ _ _) (one_string _) (by have := hwn.out; unfold maxLen; omega) (by have := hwn.out; omega) (by have := HB.out.size; simp; omega) ?_; intro v4 w4 hown4 hg4 _)
          have HB4 := hide (kept_words HB.out HO.out (Nat.le_refl _) hg4)
          have HO4 := hide (show w4.ownsRow w.heap.size 9 1 v4 (ws ++ [wd]).length (wcells (ws ++ [wd])) by rw [wcells_app, List.length_append]; exact hown4)
          clear hown4 hg4
          go_wp2_with fail
          go_roundw
          case rel => exact ⟨S, i + 1, [], ws ++ [wd], rfl, rfl, by go_num, HO4, HB4, HN⟩
          case measure => simp [intOf, strLen, str_size]; omega
      · have h2z : (i : Int) < (S.length : Int) := by omega
        have hlt : i < S.length := by omega
        obtain ⟨c, ec⟩ : ∃ c, S[i]? = some c := ⟨S[i], List.getElem?_eq_getElem hlt⟩
        obtain ⟨ci, eci⟩ : ∃ ci : Int, ci = (c.toNat : Int) := ⟨_, rfl⟩
        have hx := idx_at ec ci eci
        have E := hide ec
        have HLT := hide hlt
        by_cases h35 : c = 35
        · have hc35 : ci = 35 := by rw [eci, h35]; rfl
          subst hc35
          have HH := hide (HI.out.hash (by rw [ec, h35]))
          have hsl := slc_to (S := S) (i := i) (by omega)
          obtain ⟨S2, hS2⟩ : ∃ S2, S.take i = S2 := ⟨_, rfl⟩
          rw [hS2] at hsl
          have hS2l : S2.length = i := by rw [← hS2, List.length_take]; omega
          have HS2 := hide hS2
          have hnl : ¬ ((i : Int) < (S2.length : Int)) := by omega
          rw [HS2.out] at HH
          have HS2L := hide hS2l
          clear h1 h2 hlt ec eci h35 hS2 hS2l
          by_cases hw : wd = []
          · subst hw
            have HN := hide (show SpI l S2 (i + 1) [] ws by have := HH.out; rw [flush_nil, List.append_nil] at this; exact this)
            go_wp2_with fail
            go_roundw
            case rel => exact ⟨S2, i + 1, [], ws, rfl, rfl, by go_num, HO, HB, HN⟩
            case measure => simp [intOf, strLen, str_size]; omega
          · have hwe : (wd == []) = false := by simpa using hw
            have HN := hide (show SpI l S2 (i + 1) [] (ws ++ [wd]) by have := HH.out; rwa [flush_some hw] at this)
            go_wp2_with (at_builtin; refine wpList_append_own _ rfl (.tmp 50) (.tmp 52) 34 rfl w.heap.size 9 i0 (.string ⟨#[]⟩) 1 16 Tryz.underlying34 hi'.out hz0 hz1 hz2 rfl (by decide) _ ws.length (wcells ws) rfl (HO.out.alloc _) ⟨wr.heap.size, 0, none⟩ 1 1 [.string ⟨wd.toArray⟩] rfl rfl (one_new _ _ _) (one_string _) (by have := hwn.out; unfold maxLen; omega) (by have := hwn.out; omega) (by have := HB.out.size; simp; omega) ?_; intro v4 w4 hown4 hg4 _)
            have HB4 := hide (kept_words HB.out HO.out (Nat.le_refl _) hg4)
            have HO4 := hide (show w4.ownsRow w.heap.size 9 1 v4 (ws ++ [wd]).length (wcells (ws ++ [wd])) by rw [wcells_app, List.length_append]; exact hown4)
            clear hown4 hg4
            go_wp2_with fail
            go_roundw
            case rel => exact ⟨S2, i + 1, [], ws ++ [wd], rfl, rfl, by go_num, HO4, HB4, HN⟩
            case measure => simp [intOf, strLen, str_size]; omega
        · have hc35 : ¬ ci = 35 := by rw [eci]; intro e; exact h35 ((byte_z c 35 (by omega)).1 e)
          by_cases hb : blankC c = true
          · have hbz : ci = 32 ∨ ci = 9 := by
              unfold blankC at hb
              simp only [Bool.or_eq_true, beq_iff_eq] at hb
              rw [eci]
              rcases hb with rfl | rfl
              · exact .inl rfl
              · exact .inr rfl
            have HF := hide (HI.out.blank ec h35 hb)
            clear h1 h2 hlt ec eci h35 hb
            rcases hbz with rfl | rfl
            · by_cases hw : wd = []
              · subst hw
                have HN := hide (show SpI l S (i + 1) [] ws by have := HF.out; rw [flush_nil, List.append_nil] at this; exact this)
                go_wp2_with fail
                go_roundw
                case rel => exact ⟨S, i + 1, [], ws, rfl, rfl, by go_num, HO, HB, HN⟩
                case measure => simp [intOf, strLen, str_size]; omega
              · have hwe : (wd == []) = false := by simpa using hw
                have HN := hide (show SpI l S (i + 1) [] (ws ++ [wd]) by have := HF.out; rwa [flush_some hw] at this)
                go_wp2_with (at_builtin; refine wpList_append_own _ rfl (.tmp 50) (.tmp 52) 34 rfl w.heap.size 9 i0 (.string ⟨#[]⟩) 1 16 Tryz.underlying34 hi'.out hz0 hz1 hz2 rfl (by decide) _ ws.length (wcells ws) rfl (HO.out.alloc _) ⟨wr.heap.size, 0, none⟩ 1 1 [.string ⟨wd.toArray⟩] rfl rfl (one_new _ _ _) (one_string _) (by have := hwn.out; unfold maxLen; omega) (by have := hwn.out; omega) (by have := HB.out.size; simp; omega) ?_; intro v4 w4 hown4 hg4 _)
                have HB4 := hide (kept_words HB.out HO.out (Nat.le_refl _) hg4)
                have HO4 := hide (show w4.ownsRow w.heap.size 9 1 v4 (ws ++ [wd]).length (wcells (ws ++ [wd])) by rw [wcells_app, List.length_append]; exact hown4)
                clear hown4 hg4
                go_wp2_with fail
                go_roundw
                case rel => exact ⟨S, i + 1, [], ws ++ [wd], rfl, rfl, by go_num, HO4, HB4, HN⟩
                case measure => simp [intOf, strLen, str_size]; omega
            · by_cases hw : wd = []
              · subst hw
                have HN := hide (show SpI l S (i + 1) [] ws by have := HF.out; rw [flush_nil, List.append_nil] at this; exact this)
                go_wp2_with fail
                go_roundw
                case rel => exact ⟨S, i + 1, [], ws, rfl, rfl, by go_num, HO, HB, HN⟩
                case measure => simp [intOf, strLen, str_size]; omega
              · have hwe : (wd == []) = false := by simpa using hw
                have HN := hide (show SpI l S (i + 1) [] (ws ++ [wd]) by have := HF.out; rwa [flush_some hw] at this)
                go_wp2_with (at_builtin; refine wpList_append_own _ rfl (.tmp 50) (.tmp 52) 34 rfl w.heap.size 9 i0 (.string ⟨#[]⟩) 1 16 Tryz.underlying34 hi'.out hz0 hz1 hz2 rfl (by decide) _ ws.length (wcells ws) rfl (HO.out.alloc _) ⟨wr.heap.size, 0, none⟩ 1 1 [.string ⟨wd.toArray⟩] rfl rfl (one_new _ _ _) (one_string _) (by have := hwn.out; unfold maxLen; omega) (by have := hwn.out; omega) (by have := HB.out.size; simp; omega) ?_; intro v4 w4 hown4 hg4 _)
                have HB4 := hide (kept_words HB.out HO.out (Nat.le_refl _) hg4)
                have HO4 := hide (show w4.ownsRow w.heap.size 9 1 v4 (ws ++ [wd]).length (wcells (ws ++ [wd])) by rw [wcells_app, List.length_append]; exact hown4)
                clear hown4 hg4
                go_wp2_with fail
                go_roundw
                case rel => exact ⟨S, i + 1, [], ws ++ [wd], rfl, rfl, by go_num, HO4, HB4, HN⟩
                case measure => simp [intOf, strLen, str_size]; omega
          · have hb' : blankC c = false := by simpa using hb
            have hbz : ¬ ci = 32 ∧ ¬ ci = 9 := by
              unfold blankC at hb'
              simp only [Bool.or_eq_false_iff, beq_eq_false_iff_ne] at hb'
              rw [eci]
              exact ⟨fun e => hb'.1 ((byte_z c 32 (by omega)).1 e), fun e => hb'.2 ((byte_z c 9 (by omega)).1 e)⟩
            obtain ⟨hb32, hb9⟩ := hbz
            have hn32 : (ci != 32) = true := by simpa using hb32
            have hn9 : (ci != 9) = true := by simpa using hb9
            clear hb32 hb9
            have HN := hide (HI.out.other ec h35 hb')
            have hsl := slc_mid (S := S) (i := i) (j := i + 1) (by omega) (by omega) ((i : Int) + 1) (by omega)
            rw [Nat.add_sub_cancel_left, drop_one ec] at hsl
            obtain ⟨r, k1, n1, HR, -⟩ := cat_step wd [c] (by have := hWb.out; simp; omega)
            have k1' : ((⟨wd.toArray⟩ : ByteArray) ++ ⟨[c].toArray⟩) = ⟨r.toArray⟩ := k1
            rw [← HR.out] at HN
            have n1' : ¬ 9223372036854775807 < wd.length + 1 := n1
            clear h1 h2 hlt ec eci h35 hb hb' n1 k1'
            go_wp2_with fail
            go_roundw
            case rel => exact ⟨S, i + 1, r, ws, rfl, rfl, by go_num, HO, HB, HN⟩
            case measure => simp [intOf, strLen, str_size]; omega
end Go.Proofs.YtlhaendgdeflkaaGreatDoor
end

section
/-
  The reference's numbers (chapter 7): the numbers of any words behind marks. No condition but those of the types.
-/
namespace Go.Proofs.YtlhaendgdeflkaaGreatDoor
open Go.RowKit

theorem info_u64 : (Tryz.prog.info? 42).map (fun i => (i.zero, i.size, i.bytes)) = some (some (.int .u64 0), 1, 8) := by kernel_rfl
def ucells (l : List Int) : List Value := l.map (Value.int .u64)
theorem ucells_len (l : List Int) : (ucells l).length = l.length := by simp [ucells]
theorem ucells_app (l m : List Int) : ucells (l ++ m) = ucells l ++ ucells m := by simp [ucells]
theorem one_u64 (z : Int) : ∀ u ∈ [Value.int .u64 z], u.oneCell' = true := by
  intro u hu
  simp at hu
  subst hu
  rfl
theorem word_at {w : World} {B : Nat} {A : Option Addr} {ws : List (List UInt8)} {k : Nat} {x : List UInt8} (h : Sees w B A (wcells ws)) (hx : ws[k]? = some x) :
    ∃ b off, A = some ⟨b, off, none⟩ ∧ b < B ∧ w.cell? ⟨b, off + k, none⟩ = some (.string ⟨x.toArray⟩) :=
  h k (.string ⟨x.toArray⟩) (by unfold wcells; rw [List.getElem?_map, hx]; rfl)
/-- The marks alone. -/
def mksT (ms : List Mk) : List (List UInt8) := ms.map (·.1)
theorem mksT_at {ms : List Mk} {k : Nat} (hk : k < ms.length) : (mksT ms)[k]? = some ((ms.getD k ([], false)).1) := by
  unfold mksT
  rw [List.getElem?_map, List.getD_eq_getElem?_getD, List.getElem?_eq_getElem hk]; rfl
def nvsU (ms : List Mk) (ws : List (List UInt8)) (k : Nat) : List Int := (List.range k).map fun j => nvU (nthU ms ws j)
theorem nvsU_succ (ms : List Mk) (ws : List (List UInt8)) (k : Nat) : nvsU ms ws (k + 1) = nvsU ms ws k ++ [nvU (nthU ms ws k)] := by
  unfold nvsU; rw [List.range_succ, List.map_append]; rfl
theorem nvsU_len (ms : List Mk) (ws : List (List UInt8)) (k : Nat) : (nvsU ms ws k).length = k := by simp [nvsU]
/-- The numbers as ints. -/
def numsI (ms : List Mk) (ws : List (List UInt8)) : List Int := (numsV ms ws).map fun (v : Nat) => (v : Int)
theorem nvsU_good {ms : List Mk} {ws : List (List UInt8)} (h : numsE ms ws = 0) : nvsU ms ws ms.length = numsI ms ws := by
  unfold nvsU numsI numsV
  rw [List.map_map]
  refine List.map_congr_left fun k hk => ?_
  have hk' : k < ms.length := by simpa using hk
  have h1 := numsV_lt h hk'
  rw [List.getD_eq_getElem?_getD, numsV_at hk'] at h1
  have h2 : limU (ms.getD k ([], false)).2 ≤ 18446744073709551616 := by unfold limU; split <;> omega
  have h3 : (nthU ms ws k).getD 0 < 18446744073709551616 := Nat.lt_of_lt_of_le h1 h2
  unfold nvU
  rw [Nat.mod_eq_of_lt h3]
  rfl
/-- What the loop of numbers keeps. -/
structure NsI (ms : List Mk) (ws : List (List UInt8)) (i : Nat) (ez : Int) : Prop where
  ok : ∀ j, j < i → (nthU ms ws j).isSome = true
  ee : ez = if (List.range i).all (fitU ms ws) then 0 else 4
theorem NsI.start (ms : List Mk) (ws : List (List UInt8)) : NsI ms ws 0 0 := ⟨fun j hj => by omega, rfl⟩
theorem NsI.next {ms : List Mk} {ws : List (List UInt8)} {i : Nat} {ez ez' : Int} (h : NsI ms ws i ez) (hs : (nthU ms ws i).isSome = true) (he : ez' = if fitU ms ws i then ez else 4) : NsI ms ws (i + 1) ez' := by
  refine ⟨fun j hj => ?_, ?_⟩
  · rcases Nat.lt_or_ge j i with h1 | h1
    · exact h.ok j h1
    · obtain rfl : j = i := by omega
      exact hs
  · rw [he, h.ee, List.range_succ, List.all_append]
    cases hf : fitU ms ws i <;> simp [hf]
theorem NsI.fin {ms : List Mk} {ws : List (List UInt8)} {i : Nat} {ez : Int} (h : NsI ms ws i ez) (hl : ws.length = ms.length) (hi : i = ms.length) : ez = numsE ms ws := by
  subst hi
  rw [h.ee, numsE_of hl h.ok]
/-- What numbers gives. -/
def NsPost (ms : List Mk) (ws : List (List UInt8)) (w : World) (e : Ending) (w' : World) : Prop :=
  ∃ v, e = .returned (.tuple #[v, .int .i64 (numsE ms ws)]) ∧ (numsE ms ws = 0 → w'.ownsRow w.heap.size 42 1 v ms.length (ucells (numsI ms ws))) ∧ Below w.heap.size w w'
theorem ns_bad {ms : List Mk} {ws : List (List UInt8)} (h : numsE ms ws = 10) {w w' : World} (v : Value) (hb : Below w.heap.size w w') : NsPost ms ws w (.returned (.tuple #[v, .int .i64 10])) w' := ⟨v, by rw [h], (fun e => by rw [h] at e; cases e), hb⟩
theorem fit_cases {ms : List Mk} {ws : List (List UInt8)} {i : Nat} {imm : Bool} (hfl : (ms.getD i ([], false)).2 = imm) (hs : (nthU ms ws i).isSome = true) :
    (nfU (nthU ms ws i) = false ∧ fitU ms ws i = false) ∨ (nfU (nthU ms ws i) = true ∧ nvU (nthU ms ws i) ≤ 2147483647 ∧ fitU ms ws i = true) ∨ (nfU (nthU ms ws i) = true ∧ 2147483647 < nvU (nthU ms ws i) ∧ fitU ms ws i = imm) := by
  unfold fitU
  rw [hfl]
  cases h : nthU ms ws i with
  | none => rw [h] at hs; cases hs
  | some v =>
    unfold nfU nvU limU
    simp only [Option.getD_some]
    by_cases h64 : v < 18446744073709551616
    · right
      rw [Nat.mod_eq_of_lt h64]
      by_cases h31 : v < 2147483648
      · left
        refine ⟨decide_eq_true h64, by omega, decide_eq_true ?_⟩
        split <;> omega
      · right
        refine ⟨decide_eq_true h64, by omega, ?_⟩
        cases imm with
        | true => simpa using h64
        | false => simpa using h31
    · left
      refine ⟨decide_eq_false h64, decide_eq_false ?_⟩
      split <;> omega

set_option maxHeartbeats 8000000 in
set_option maxRecDepth 100000 in
theorem rnumbers_any (A : Option Addr) (n c : Nat) (ws : List (List UInt8)) (A' : Option Addr) (n' c' : Nat) (ms : List Mk) (imm : Bool) (w : World) (B : Nat) (hB : B ≤ w.heap.size) (hS : Hid (Sees w B A (wcells ws))) (hS' : Hid (Sees w B A' (wcells (mksT ms)))) (hn : Hid (ws.length = n)) (hn' : Hid (ms.length = n'))
    (hlen : Hid (∀ x ∈ ws, x.length ≤ 100000000)) (hml : Hid (∀ m ∈ ms, m.1.length ≤ 1000)) (h1 : n ≤ 100000001) (h2 : n' ≤ 1000) (hfl : Hid (∀ i, i < ms.length → (ms.getD i ([], false)).2 = (imm && decide (i + 1 = ms.length)))) :
    Calls Tryz.prog 50 #[.slice A n c, .slice A' n' c', .bool imm] w (NsPost ms ws w) := by
  by_cases hne : n = n'
  · subst hne
    obtain ⟨i0, hi, hz0, hz1, hz2⟩ := info_parts info_u64
    have hi' := hide hi
    clear hi
    go_enter Tryz.func50, Tryz.ntmps50
    go_wp2_with fail
    go_loopw [8, 9, 10, 11, 12, 13] (fun ov ev iv _ _ _ wr => ∃ (i : Nat) (ez : Int), iv = .int .i64 (i : Int) ∧ ev = .int .i64 ez ∧ i ≤ n ∧ Hid (wr.ownsRow w.heap.size 42 1 ov i (ucells (nvsU ms ws i))) ∧ Hid (NsI ms ws i ez) ∧ Hid (Below w.heap.size w wr)) (fun _ _ iv _ _ _ _ => n - (intOf iv).toNat)
    case atStart => exact ⟨0, 0, rfl, rfl, Nat.zero_le _, hide (World.ownsRow_nil _ _ _ _), hide (NsI.start _ _), hide (Below.refl _ _)⟩
    case round =>
      obtain ⟨i, ez, rfl, rfl, hin, HO, HI, HBr⟩ := hrel
      by_cases hlt : i < n
      · have hltz : (i : Int) < (n : Int) := by omega
        have hiw : i < ws.length := by rw [hn.out]; exact hlt
        have him : i < ms.length := by rw [hn'.out]; exact hlt
        obtain ⟨x, hx⟩ : ∃ x, ws[i]? = some x := ⟨ws[i], List.getElem?_eq_getElem hiw⟩
        obtain ⟨b1, o1, rfl, hb1, q1⟩ := word_at (hS.out.below (HBr.out.mono hB)) hx
        obtain ⟨b2, o2, rfl, hb2, q2⟩ := word_at (hS'.out.below (HBr.out.mono hB)) (mksT_at him)
        have hxl := hlen.out x (List.mem_of_getElem? hx)
        have hml' : (ms.getD i ([], false)).1.length ≤ 1000 := by
          rw [List.getD_eq_getElem?_getD, List.getElem?_eq_getElem him]
          exact hml.out _ (List.getElem_mem him)
        have hnth : nthU ms ws i = numU (ms.getD i ([], false)).1 x := by unfold nthU; rw [List.getD_eq_getElem?_getD (l := ws), hx]; rfl
        have K1 := hide (fun pw : After wr => rnumber_any x (ms.getD i ([], false)).1 pw.w hxl hml')
        unfold NumPost at K1
        rw [← hnth] at K1
        have hnone := @numsE_none ms ws i him
        have hfc := @fit_cases ms ws i _ (hfl.out i him)
        have hnvs := nvsU_succ ms ws i
        obtain ⟨mk, emk⟩ : ∃ mk, (ms.getD i ([], false)).1 = mk := ⟨_, rfl⟩
        rw [emk] at q2 K1
        obtain ⟨o, eo⟩ : ∃ o, nthU ms ws i = o := ⟨_, rfl⟩
        rw [eo] at K1 hnone hfc hnvs
        have HEO := hide eo
        have f1 := after_cell q1
        have f2 := after_cell q2
        have HNONE := hide hnone; have HFC := hide hfc; have HNV := hide hnvs; have HLT := hide hlt; have HIM := hide him
        clear hiw hx hb1 hb2 q1 q2 hxl hml' hnth emk eo hnone hfc hnvs hlt him
        go_upto_region 8 with (fail)
        refine wp_region_after (by kernel_rfl) (by kernel_rfl) ?_
        repeat (go_big_quiet_step ((go_at_call 72; with_reducible exact after_same (K1.out _))))
        refine wpQuiet_nil ?_
        intro _ hw'
        obtain ⟨p0, hw''⟩ := hw'
        subst hw''
        clear f1 f2
        have HBn := hide (HBr.out.trans (p0.b.mono HBr.out.size))
        have HOn := hide (own_below HO.out p0.b)
        obtain ⟨vz, evz⟩ : ∃ vz, nvU o = vz := ⟨_, rfl⟩
        rw [evz]
        cases hos : o.isSome with
        | false =>
          have FIN := hide (ns_bad (HNONE.out (by cases o with | none => rfl | some v => cases hos)) (.slice none 0 0) HBn.out)
          go_wp2_with fail
          go_ret2
          exact FIN.out
        | true =>
          have hwi : IntKind.i64.wrap ((n : Int) - 1) = (n : Int) - 1 := by rw [IntKind.wrap_i64]; omega
          have hcell : Hid (ucells (nvsU ms ws i) ++ [.int .u64 vz] = ucells (nvsU ms ws (i + 1))) := hide (by rw [HNV.out, evz, ucells_app]; rfl)
          have hsome : (nthU ms ws i).isSome = true := by rw [HEO.out]; exact hos
          have hil : decide (i + 1 = ms.length) = decide ((i : Int) = (n : Int) - 1) := by rw [hn'.out]; congr 1; apply propext; omega
          rw [hil] at HFC
          obtain ⟨fz, efz⟩ : ∃ fz, nfU o = fz := ⟨_, rfl⟩
          obtain ⟨gz, egz⟩ : ∃ gz, fitU ms ws i = gz := ⟨_, rfl⟩
          have HF := hide (HFC.out hos)
          rw [efz, evz, egz] at HF
          rw [efz]
          have HNX := hide (fun (ez' : Int) (h : ez' = if gz = true then ez else 4) => NsI.next (ez' := ez') HI.out hsome (by rw [egz]; exact h))
          clear evz hos hsome hil efz egz
          rcases HF.out with ⟨rfl, rfl⟩ | ⟨rfl, hv, rfl⟩ | ⟨rfl, hv, hg⟩
          · clear HF HFC
            have HN := hide (HNX.out 4 (by simp))
            clear HNX
            go_wp2_with (at_builtin; refine wpList_append_own _ rfl (.tmp 57) (.tmp 59) 93 rfl w.heap.size 42 i0 (.int .u64 0) 1 8 Tryz.underlying93 hi'.out hz0 hz1 hz2 rfl (by decide) _ i (ucells (nvsU ms ws i)) rfl (HOn.out.alloc _) ⟨p0.w.heap.size, 0, none⟩ 1 1 [.int .u64 vz] rfl rfl (one_new _ _ _) (one_u64 _) (by unfold maxLen; omega) (by omega) (by have := HBn.out.size; simp; omega) ?_; intro v4 w4 hown4 hg4 _)
            have HB4 := hide (below_append (HBn.out.alloc HBn.out.size _) (HOn.out.alloc (.cells #[.int .u64 vz] 42)) (Nat.le_refl _) hg4 (by have := HBn.out.size; simp; omega))
            rw [hcell.out] at hown4
            have HO4 := hide hown4
            clear hown4 hg4
            go_wp2_with fail
            go_roundw
            case rel => exact ⟨i + 1, 4, by go_num, rfl, by omega, HO4, HN, HB4⟩
            case measure => simp [intOf]; omega
          · have hv' : ¬ 2147483647 < vz := by omega
            clear HF HFC
            have HN := hide (HNX.out ez (by simp))
            clear HNX
            go_wp2_with (at_builtin; refine wpList_append_own _ rfl (.tmp 57) (.tmp 59) 93 rfl w.heap.size 42 i0 (.int .u64 0) 1 8 Tryz.underlying93 hi'.out hz0 hz1 hz2 rfl (by decide) _ i (ucells (nvsU ms ws i)) rfl (HOn.out.alloc _) ⟨p0.w.heap.size, 0, none⟩ 1 1 [.int .u64 vz] rfl rfl (one_new _ _ _) (one_u64 _) (by unfold maxLen; omega) (by omega) (by have := HBn.out.size; simp; omega) ?_; intro v4 w4 hown4 hg4 _)
            have HB4 := hide (below_append (HBn.out.alloc HBn.out.size _) (HOn.out.alloc (.cells #[.int .u64 vz] 42)) (Nat.le_refl _) hg4 (by have := HBn.out.size; simp; omega))
            rw [hcell.out] at hown4
            have HO4 := hide hown4
            clear hown4 hg4
            go_wp2_with fail
            go_roundw
            case rel => exact ⟨i + 1, ez, by go_num, rfl, by omega, HO4, HN, HB4⟩
            case measure => simp [intOf]; omega
          · clear HF HFC
            cases imm with
            | false =>
              simp only [Bool.false_and] at hg
              subst hg
              have HN := hide (HNX.out 4 (by simp))
              clear HNX
              go_wp2_with (at_builtin; refine wpList_append_own _ rfl (.tmp 57) (.tmp 59) 93 rfl w.heap.size 42 i0 (.int .u64 0) 1 8 Tryz.underlying93 hi'.out hz0 hz1 hz2 rfl (by decide) _ i (ucells (nvsU ms ws i)) rfl (HOn.out.alloc _) ⟨p0.w.heap.size, 0, none⟩ 1 1 [.int .u64 vz] rfl rfl (one_new _ _ _) (one_u64 _) (by unfold maxLen; omega) (by omega) (by have := HBn.out.size; simp; omega) ?_; intro v4 w4 hown4 hg4 _)
              have HB4 := hide (below_append (HBn.out.alloc HBn.out.size _) (HOn.out.alloc (.cells #[.int .u64 vz] 42)) (Nat.le_refl _) hg4 (by have := HBn.out.size; simp; omega))
              rw [hcell.out] at hown4
              have HO4 := hide hown4
              clear hown4 hg4
              go_wp2_with fail
              go_roundw
              case rel => exact ⟨i + 1, 4, by go_num, rfl, by omega, HO4, HN, HB4⟩
              case measure => simp [intOf]; omega
            | true =>
              simp only [Bool.true_and] at hg
              by_cases hie : (i : Int) = (n : Int) - 1
              · rw [decide_eq_true hie] at hg
                subst hg
                have hib : ((i : Int) == (n : Int) - 1) = true := by simpa using hie
                clear hie
                have HN := hide (HNX.out ez (by simp))
                clear HNX
                go_wp2_with (at_builtin; refine wpList_append_own _ rfl (.tmp 57) (.tmp 59) 93 rfl w.heap.size 42 i0 (.int .u64 0) 1 8 Tryz.underlying93 hi'.out hz0 hz1 hz2 rfl (by decide) _ i (ucells (nvsU ms ws i)) rfl (HOn.out.alloc _) ⟨p0.w.heap.size, 0, none⟩ 1 1 [.int .u64 vz] rfl rfl (one_new _ _ _) (one_u64 _) (by unfold maxLen; omega) (by omega) (by have := HBn.out.size; simp; omega) ?_; intro v4 w4 hown4 hg4 _)
                have HB4 := hide (below_append (HBn.out.alloc HBn.out.size _) (HOn.out.alloc (.cells #[.int .u64 vz] 42)) (Nat.le_refl _) hg4 (by have := HBn.out.size; simp; omega))
                rw [hcell.out] at hown4
                have HO4 := hide hown4
                clear hown4 hg4
                go_wp2_with fail
                go_roundw
                case rel => exact ⟨i + 1, ez, by go_num, rfl, by omega, HO4, HN, HB4⟩
                case measure => simp [intOf]; omega
              · rw [decide_eq_false hie] at hg
                subst hg
                have hib : ((i : Int) == (n : Int) - 1) = false := by simpa using hie
                clear hie
                have HN := hide (HNX.out 4 (by simp))
                clear HNX
                go_wp2_with (at_builtin; refine wpList_append_own _ rfl (.tmp 57) (.tmp 59) 93 rfl w.heap.size 42 i0 (.int .u64 0) 1 8 Tryz.underlying93 hi'.out hz0 hz1 hz2 rfl (by decide) _ i (ucells (nvsU ms ws i)) rfl (HOn.out.alloc _) ⟨p0.w.heap.size, 0, none⟩ 1 1 [.int .u64 vz] rfl rfl (one_new _ _ _) (one_u64 _) (by unfold maxLen; omega) (by omega) (by have := HBn.out.size; simp; omega) ?_; intro v4 w4 hown4 hg4 _)
                have HB4 := hide (below_append (HBn.out.alloc HBn.out.size _) (HOn.out.alloc (.cells #[.int .u64 vz] 42)) (Nat.le_refl _) hg4 (by have := HBn.out.size; simp; omega))
                rw [hcell.out] at hown4
                have HO4 := hide hown4
                clear hown4 hg4
                go_wp2_with fail
                go_roundw
                case rel => exact ⟨i + 1, 4, by go_num, rfl, by omega, HO4, HN, HB4⟩
                case measure => simp [intOf]; omega
      · have hi2 : i = n := by omega
        subst hi2
        have hltz : ¬ ((i : Int) < (i : Int)) := by omega
        have HE := hide (HI.out.fin (by rw [hn.out, hn'.out]) hn'.out.symm)
        have FIN := hide (show NsPost ms ws w (.returned (.tuple #[u8, .int .i64 ez])) wr from ⟨u8, by rw [HE.out], (fun h0 => by
          have := HO.out
          have hnn := hn'.out
          subst hnn
          rw [nvsU_good h0] at this
          exact this), HBr.out⟩)
        clear hlt
        go_wp2_with fail
        go_ret2
        exact FIN.out
  · have hz : ¬ ((n : Int) = (n' : Int)) := by omega
    have FIN := hide (ns_bad (numsE_len (ms := ms) (ws := ws) (by rw [hn.out, hn'.out]; exact hne)) (.slice none 0 0) (Below.refl w.heap.size w))
    clear hne
    go_enter Tryz.func50, Tryz.ntmps50
    go_wp2_with fail
    go_ret2
    exact FIN.out
end Go.Proofs.YtlhaendgdeflkaaGreatDoor
end

section
/-
  The reference's op (chapter 7): the operation of a name; what the reading of an instruction gives. No condition but those of the types.
-/
namespace Go.Proofs.YtlhaendgdeflkaaGreatDoor
open Go.RowKit

def OpPost (nm : List UInt8) (w : World) (e : Ending) (w' : World) : Prop := e = .returned (.tuple #[.int .i64 (((opU nm).getD 0 : Nat) : Int), .bool (opU nm).isSome]) ∧ Below w.heap.size w w'
set_option maxHeartbeats 4000000 in
theorem rop_any (nm : List UInt8) (w : World) :
    Calls Tryz.prog 73 #[.string ⟨nm.toArray⟩] w (OpPost nm w) := by
  go_enter Tryz.func73, Tryz.ntmps73
  go_wp2_with fail
  go_loopw [4] (fun iv wr => ∃ k : Nat, k ≤ 25 ∧ iv = .int .i64 (k : Int) ∧ Hid (∀ j : Nat, j < k → nameT (j : Int) ≠ nm) ∧ Hid (Below w.heap.size w wr)) (fun iv _ => 25 - (intOf iv).toNat)
  case atStart => exact ⟨0, by omega, rfl, hide (fun j hj => by omega), hide (Below.refl _ _)⟩
  case round =>
    obtain ⟨k, hk, rfl, HN, HB⟩ := hrel
    by_cases hlt : k < 25
    · have hltz : (k : Int) < 25 := by omega
      have cn := rname_any (k : Int) wr
      rw [if_pos (withB_true.2 ⟨by omega, by omega⟩)] at cn
      by_cases he : nameT (k : Int) = nm
      · have hop := hide (opU_name hlt he)
        rw [he] at cn
        clear he hlt
        go_wp2_with fail
        refine cn.mono ?_
        rintro e w1 ⟨rfl, hb1⟩
        have FIN := hide (show OpPost nm w (.returned (.tuple #[.int .i64 (k : Int), .bool true])) w1 from ⟨by rw [hop.out]; rfl, HB.out.trans (hb1.mono HB.out.size)⟩)
        clear cn hb1
        go_wp2_with fail
        go_ret2
        exact FIN.out
      · have HN' := hide (show ∀ j : Nat, j < k + 1 → nameT (j : Int) ≠ nm from fun j hj => by
          rcases Nat.lt_or_ge j k with h | h
          · exact HN.out j h
          · obtain rfl : j = k := by omega
            exact he)
        obtain ⟨nk, enk⟩ : ∃ nk, nameT (k : Int) = nk := ⟨_, rfl⟩
        rw [enk] at cn he
        have hb : (nk == nm) = false := by simpa using he
        clear enk he
        go_wp2_with fail
        refine cn.mono ?_
        rintro e w1 ⟨rfl, hb1⟩
        have HB1 := hide (HB.out.trans (hb1.mono HB.out.size))
        clear cn hb1
        go_wp2_with fail
        go_roundw
        case rel => exact ⟨k + 1, by omega, by go_num, HN', HB1⟩
        case measure => simp [intOf]; omega
    · obtain rfl : k = 25 := by omega
      have hop := hide (opU_none HN.out)
      have FIN := hide (show OpPost nm w (.returned (.tuple #[.int .i64 0, .bool false])) wr from ⟨by rw [hop.out]; rfl, HB.out⟩)
      have hltz : ¬ (((25 : Nat) : Int) < 25) := by omega
      clear hlt hk
      go_wp2_with fail
      go_ret2
      exact FIN.out

/-- The words behind the first one. -/
theorem tail_at {w : World} {B : Nat} {b off n c : Nat} {x : List UInt8} {ws : List (List UInt8)} (h : Sees w B (some ⟨b, off, none⟩) (wcells (x :: ws))) (hn : n = ws.length + 1) (hnc : n ≤ c) :
    ∃ (A2 : Option Addr), (∀ W, (Instr.sliceAt 34 (.slice (some ⟨b, off, none⟩) n c) (some (.int .i64 1)) none none).run Tryz.prog W = .ok (.slice A2 (n - 1) (c - 1)) W) ∧ (∀ w', (∀ p : Addr, p.block < B → w'.cell? p = w.cell? p) → Sees w' B A2 (wcells ws)) := by
  have hel : Tryz.prog.elem 34 = 9 := by kernel_rfl
  have hu : Tryz.prog.underlying 34 = some (.slice (Tryz.prog.elem 34)) := by rw [hel]; exact Tryz.underlying34
  have hsz : ∀ W, (sizeOf 9).run Tryz.prog W = .ok 1 W := fun W => by kernel_rfl
  refine ⟨if c = 1 then some ⟨b, off, none⟩ else some ⟨b, off + 1, none⟩, fun W => ?_, fun w' hk => ?_⟩
  · rw [run_sliceAt_slice W 34 _ _ _ _ hu, run_slice_l W 34 _ n c hu .i64 1 (by omega) (by omega), hel, hsz]
    simp only [Result.andThen, sliced]
    by_cases h1 : c = 1
    · subst h1
      simp
    · have h1' : ¬ (c = (1 : Int).toNat) := by simpa using h1
      rw [if_neg h1, if_neg h1']
      simp [Addr.add]
  · have h' := h.keep hk
    by_cases h1 : c = 1
    · have : ws = [] := List.eq_nil_of_length_eq_zero (by omega)
      subst this
      exact Sees.nil_ _ _ _
    · rw [if_neg h1]
      have := h'.drop 1
      simpa [wcells, Addr.add] using this
/-- The error and the instruction of words behind a name. -/
def insE7 (nm : List UInt8) (r : List (List UInt8)) : Int := match opU nm with | none => 10 | some k => numsE (marksU k) r
def insX7 (nm : List UInt8) (r : List (List UInt8)) : Ins := match opU nm with | none => ⟨0, 0, 0, 0, 0⟩ | some k => if numsE (marksU k) r = 0 then insU k (numsV (marksU k) r) else ⟨0, 0, 0, 0, 0⟩
theorem insE7_cases (nm : List UInt8) (r : List (List UInt8)) : insE7 nm r = 0 ∨ insE7 nm r = 4 ∨ insE7 nm r = 10 := by
  unfold insE7
  split
  · simp
  · exact numsE_cases _ _
def InPost (nm : List UInt8) (r : List (List UInt8)) (w : World) (e : Ending) (w' : World) : Prop :=
  e = .returned (.tuple #[iv (insX7 nm r).op (insX7 nm r).a (insX7 nm r).b (insX7 nm r).c (insX7 nm r).imm, .int .i64 (insE7 nm r)]) ∧ Below w.heap.size w w'
theorem instU_eq (F : Pg) (f : Fn) (nm : List UInt8) (r : List (List UInt8)) : instU F f nm r = if insE7 nm r = 0 then (0, F.dropLast ++ [⟨f.params, f.slots, f.code ++ [insX7 nm r]⟩]) else (insE7 nm r, F) := by
  unfold instU insE7 insX7
  cases opU nm with
  | none => simp
  | some k =>
    simp only
    by_cases h : numsE (marksU k) r = 0
    · rw [if_pos h, if_pos h, if_pos h]
    · rw [if_neg h, if_neg h]
/-- The marks by the operands that an operation has. -/
theorem marks_shape {k : Nat} (hk : k < 25) : marksU k = (if useA k then [(mA k, false)] else []) ++ ((if useB k then [(mB k, false)] else []) ++ ((if useC k then [(mC k, false)] else []) ++ (if useI k then [([], true)] else []))) := by
  have e : ∀ k : Fin 25, marksU k.val = (if useA (k.val : Nat) then [(mA (k.val : Nat), false)] else []) ++ ((if useB (k.val : Nat) then [(mB (k.val : Nat), false)] else []) ++ ((if useC (k.val : Nat) then [(mC (k.val : Nat), false)] else []) ++ (if useI (k.val : Nat) then [([], true)] else []))) := by decide
  exact e ⟨k, hk⟩
theorem insU_shape (k : Nat) (vs : List Nat) : insU k vs = ⟨k, if useA k then vs.getD 0 0 else 0, if useB k then vs.getD 1 0 else 0, if useC k then vs.getD 2 0 else 0, if useI k then vs.getD (if useA k then 1 else 0) 0 else 0⟩ := by
  unfold insU useA useB useC useI
  simp only [Bool.not_eq_true', decide_eq_false_iff_not, ne_eq]
end Go.Proofs.YtlhaendgdeflkaaGreatDoor
end
