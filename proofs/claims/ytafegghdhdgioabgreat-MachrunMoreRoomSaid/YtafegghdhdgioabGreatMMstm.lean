import Derived.Test.YtafegghdhdgioabGreatMMtgm
import Derived.Test.YtafegghdhdgioabGreatMMfch
import Derived.Test.YtafegghdhdgioabGreatMJdt
import Derived.Test.YtafegghdhdgioabGreatMDcw
import Derived.Test.YtafegghdhdgioabGreatMEmath
import Derived.Test.YtafegghdhdgioabGreatMNcc
import Derived.Test.YtafegghdhdgioabGreatMNgo
import Derived.Maps.Range
set_option linter.unusedVariables false
set_option linter.unusedSimpArgs false
section
/-
  What a target without error keeps: its frames' bounds, that each instruction reads and writes where it may, that each caller has room. No function of the program is named here.
-/
namespace Go.Proofs.YtafegghdhdgioabGreat
open Go.RowKit

theorem tgE_ok {Al : Int} {F : Tg} (h : tgE Al F = 0) : firstE (F.map (fmE Al F.length)) = 0 ∧ F.all (roomB F) = true := by
  unfold tgE at h
  by_cases h1 : 80 < F.length
  · rw [if_pos h1] at h; omega
  · rw [if_neg h1] at h
    cases F with
    | nil => simp at h
    | cons f r =>
      simp only at h
      by_cases h2 : powB Al = false ∨ Al < 16
      · rw [if_pos h2] at h; omega
      · rw [if_neg h2] at h
        by_cases h3 : f.params ≠ 0
        · rw [if_pos h3] at h; omega
        · rw [if_neg h3] at h
          by_cases h4 : firstE ((f :: r).map (fmE Al (f :: r).length)) ≠ 0
          · rw [if_pos h4] at h; exact absurd h h4
          · rw [if_neg h4] at h
            refine ⟨Decidable.not_not.1 h4, ?_⟩
            by_cases h5 : (f :: r).all (roomB (f :: r)) = true
            · exact h5
            · rw [if_neg h5] at h; omega
theorem mins_cov {N : Nat} {f : Fm} {x : Ins} (h : minsE N f x = 0) : covB f.params f.size x = true := by
  unfold minsE at h
  by_cases he : exB x.op = false
  · rw [if_pos he] at h; omega
  · rw [if_neg he] at h
    unfold mrank at h
    cases hc : covB f.params f.size x with
    | true => rfl
    | false =>
      exfalso
      rw [hc] at h
      revert h
      (repeat' split) <;> simp_all
/-- What one instruction keeps: what it reads and writes lies where it may. -/
structure InsOk (F : Tg) (f : Fm) (x : Ins) : Prop where
  r : rdB x.op = true → 0 ≤ x.b ∧ 0 ≤ x.c ∧ x.b + x.c ≤ 2147483647 ∧ x.b + x.c ≤ f.size + 16 * f.params
  w : wrB x.op = true → 0 ≤ x.a ∧ 0 ≤ x.c ∧ x.a + x.c ≤ 2147483647 ∧ x.a + x.c ≤ f.size
  c : x.op = 22 → 0 ≤ x.a ∧ x.a < (F.length : Int) ∧ callB F f x = true
theorem tgE_ins {Al : Int} {F : Tg} (h : tgE Al F = 0) : ∀ f ∈ F, ((0 ≤ f.params ∧ f.params ≤ 8) ∧ (0 ≤ f.size ∧ f.size ≤ 2147483519)) ∧ ∀ x ∈ f.code, InsOk F f x := by
  obtain ⟨h1, h2⟩ := tgE_ok h
  intro f hf
  have hz := fmE_zero (firstE_zero.1 h1 _ (List.mem_map.2 ⟨f, hf, rfl⟩))
  have hs := hz.1
  unfold shB at hs
  simp only [Bool.and_eq_true] at hs
  have b1 := withB_true.1 hs.2.1
  have b2 := withB_true.1 hs.2.2.1
  refine ⟨by omega, fun x hx => ?_⟩
  have hm := hz.2.2.1 x hx
  have hc := mins_cov hm
  unfold covB at hc
  rw [Bool.and_eq_true] at hc
  obtain ⟨c1, c2⟩ := hc
  unfold insB at c1 c2
  rw [Bool.and_eq_true, rightB_iff, decide_eq_true_eq] at c1 c2
  refine ⟨fun hr => ?_, fun hw => ?_, fun h22 => ?_⟩
  · unfold rdI at c1
    rw [hr] at c1
    simp at c1
    omega
  · unfold wrI at c2
    rw [hw] at c2
    simp at c2
    omega
  · have ha := mins_call hm h22
    have hr := List.all_eq_true.1 h2 f hf
    unfold roomB at hr
    exact ⟨ha.1, ha.2, List.all_eq_true.1 hr x hx⟩
end Go.Proofs.YtafegghdhdgioabGreat
end

section
/-
  A drawn program, lowered with its plain layouts and with some stores' offsets drawn anew, is a right target that can be written. No function of the program is named here.
-/
namespace Go.Proofs.YtafegghdhdgioabGreat
open Go.RowKit

theorem g25 {op : Int} (h0 : 0 ≤ op) (h1 : op < 25) : op = 0 ∨ op = 1 ∨ op = 2 ∨ op = 3 ∨ op = 4 ∨ op = 5 ∨ op = 6 ∨ op = 7 ∨ op = 8 ∨ op = 9 ∨ op = 10 ∨ op = 11 ∨ op = 12 ∨ op = 13 ∨ op = 14 ∨ op = 15 ∨ op = 16 ∨ op = 17 ∨ op = 18 ∨ op = 19 ∨ op = 20 ∨ op = 21 ∨ op = 22 ∨ op = 23 ∨ op = 24 := by omega
theorem mop0 {N C n : Int} (h : withB n 1 = true) : mopE N C 0 n = 0 := by
  have := withB_true.1 h
  unfold mopE
  rw [if_pos rfl, if_pos (by omega)]
theorem mop1 {N C n : Int} (h : withB n 8 = true) : mopE N C 1 n = 0 := by unfold mopE; rw [if_neg (by decide), if_pos rfl, if_pos h]
theorem mop2 {N C n : Int} : mopE N C 2 n = 0 := by unfold mopE; rw [if_neg (by decide), if_neg (by decide), if_neg (by decide), if_neg (by decide), if_neg (by decide)]
theorem mop3 {N C n : Int} (h : szB n = true) : mopE N C 3 n = 0 := by unfold mopE; rw [if_neg (by decide), if_neg (by decide), if_neg (by decide), if_pos rfl, if_pos h]
theorem mop4 {N C n : Int} (h : withB n N = true) : mopE N C 4 n = 0 := by unfold mopE; rw [if_neg (by decide), if_neg (by decide), if_pos rfl, if_pos h]
theorem mop5 {N C n : Int} (h : withB n C = true) : mopE N C 5 n = 0 := by unfold mopE; rw [if_neg (by decide), if_neg (by decide), if_neg (by decide), if_neg (by decide), if_pos rfl, if_pos h]
/-- An instruction of a frame without an error. -/
structure GI (N C : Int) (P S : Int) (x : Ins) : Prop where
  ex : exB x.op = true
  a : mopE N C (mshpOf x.op).1 x.a = 0
  b : mopE N C (mshpOf x.op).2.1 x.b = 0
  c : mopE N C (mshpOf x.op).2.2.1 x.c = 0
  m : (mshpOf x.op).2.2.2 = true ∨ x.imm = 0
  cov : covB P S x = true
theorem GI.zero {N : Nat} {f : Fm} {x : Ins} (h : GI N f.code.length f.params f.size x) : minsE N f x = 0 := by
  unfold minsE
  rw [if_neg (by rw [h.ex]; decide), h.cov]
  have e : mfound N f.code.length x = [0, 0, 0] := by
    unfold mfound foundE
    rw [h.a, h.b, h.c, if_neg (by
      rintro ⟨h1, h2⟩
      rcases h.m with e | e
      · rw [e] at h1; cases h1
      · exact h2 e)]
    rfl
  rw [e]
  decide
theorem insB_of {o s n : Int} (h0 : 0 ≤ o) (h1 : 0 ≤ s) (h2 : o + s ≤ 2147483647) (h3 : o + s ≤ n) : insB o s n = true := by
  unfold insB
  rw [Bool.and_eq_true, rightB_iff, decide_eq_true_eq]
  exact ⟨⟨h0, h1, h2⟩, h3⟩
theorem cov_none {P S : Int} {x : Ins} (hr : rdB x.op = false) (hw : wrB x.op = false) (hP : 0 ≤ P) (hS : 0 ≤ S) : covB P S x = true := by
  unfold covB rdI wrI
  rw [hr, hw]
  simp only [Bool.false_eq_true, if_false]
  rw [insB_of (by omega) (by omega) (by omega) (by omega), insB_of (by omega) (by omega) (by omega) (by omega)]
  rfl
theorem cov_rd {P S : Int} {x : Ins} (hr : rdB x.op = true) (hw : wrB x.op = false) (hS : 0 ≤ S) (h0 : 0 ≤ x.b) (h1 : 0 ≤ x.c) (h2 : x.b + x.c ≤ 2147483647) (h3 : x.b + x.c ≤ S + 16 * P) : covB P S x = true := by
  unfold covB rdI wrI
  rw [hr, hw]
  simp only [Bool.false_eq_true, if_false, if_true]
  rw [insB_of h0 h1 h2 h3, insB_of (by omega) (by omega) (by omega) (by omega)]
  rfl
theorem cov_wr {P S : Int} {x : Ins} (hr : rdB x.op = false) (hw : wrB x.op = true) (hP : 0 ≤ P) (hS : 0 ≤ S) (h0 : 0 ≤ x.a) (h1 : 0 ≤ x.c) (h2 : x.a + x.c ≤ 2147483647) (h3 : x.a + x.c ≤ S) : covB P S x = true := by
  unfold covB rdI wrI
  rw [hr, hw]
  simp only [Bool.false_eq_true, if_false, if_true]
  rw [insB_of (by omega) (by omega) (by omega) (by omega), insB_of h0 h1 h2 h3]
  rfl
theorem argI_ge (F : Pg) (n : Int) (x : Ins) : n ≤ argI F n x := by
  unfold argI
  (repeat' split) <;> omega
theorem argN_ge {F : Pg} {l : List Ins} : ∀ k, k ≤ l.length → ∀ (j : Nat) (hl : j < l.length), j < k → (l[j].op = 18 → l[j].a + 1 ≤ argN F (l.take k)) ∧ (l[j].op = 22 → ((F[l[j].a.toNat]?).map Fn.params).getD 0 ≤ argN F (l.take k)) := by
  intro k
  induction k with
  | zero => intro _ j _ hj; omega
  | succ k ih =>
    intro hk j hl hj
    rw [argN_snoc F l k (by omega)]
    by_cases hjk : j < k
    · have h := ih (by omega) j hl hjk
      have hg := argI_ge F (argN F (l.take k)) l[k]
      exact ⟨fun e => Int.le_trans (h.1 e) hg, fun e => Int.le_trans (h.2 e) hg⟩
    · obtain rfl : j = k := by omega
      refine ⟨fun e => ?_, fun e => ?_⟩
      · rw [argI_arg e]; omega
      · unfold argI
        rw [if_neg (by omega), if_pos e]
        omega
/-- Where each slot lies. -/
theorem offs {a : Int} {l : List (Int × Int)} (ha : 0 ≤ a ∧ a ≤ 128) (hs : ∀ u ∈ l, slotB u.1 u.2 = true) : ∀ k, k ≤ l.length → ∀ (j : Nat) (hl : j < l.length), j < k → ∃ o, (basF a (l.take k)).1[j]? = some o ∧ a ≤ o ∧ o + l[j].1 ≤ (basF a (l.take k)).2 := by
  intro k
  induction k with
  | zero => intro _ j _ hj; omega
  | succ k ih =>
    intro hk j hl hj
    have hlen := basF_len a l k (by omega)
    have hb := basF_b ha hs k (by omega)
    rw [basF_snoc a l k (by omega)]
    have hsl := hs _ (List.getElem_mem (show k < l.length by omega))
    unfold slotB at hsl
    rw [Bool.and_eq_true] at hsl
    have h1 := szB_b hsl.1
    have h2 := powB_b hsl.2
    have hu := upM_b (basF a (l.take k)).2 (show 0 < l[k].2 by omega)
    unfold basI
    simp only
    by_cases hjk : j < k
    · obtain ⟨o, e1, e2, e3⟩ := ih (by omega) j hl hjk
      exact ⟨o, by rw [List.getElem?_append_left (by omega)]; exact e1, e2, by omega⟩
    · obtain rfl : j = k := by omega
      refine ⟨upM (basF a (l.take j)).2 l[j].2, by rw [List.getElem?_append_right (by omega), hlen, Nat.sub_self]; rfl, by omega, by omega⟩
theorem term_low (os : List Int) (sl : List (Int × Int)) (S : Int) (x : Ins) : termB (lowX os sl S x).op = termB x.op := by
  unfold lowX
  (repeat' split) <;> rename_i h <;> simp_all [termB]
theorem low_gi {F : Pg} {f : Fn} {al : Int} (hF : LowPg2 F) (hf : f ∈ F) (hfn : fnE F.length f = 0) (hal : powB al = true) {x : Ins} (hx : x ∈ f.code) :
    GI F.length (f.code.length : Nat) f.params (lowF F al f).size (lowX (basF (argN F f.code * 16) f.slots).1 f.slots (lowF F al f).size x) := by
  obtain ⟨hc, hsl0, hp, hins, _⟩ := fnE_zero.1 hfn
  obtain ⟨ho, e1, e2, e3, hm, hmv⟩ := insE_zero.1 (hins x hx)
  rw [opndE_zero] at e1 e2 e3
  have hsl := hF.pg.slot f hf
  have hab := argN_b (hF.pg.arg f hf) f.code.length
  rw [List.take_of_length_le (Nat.le_refl _)] at hab
  have hS := low_size (hF.pg.arg f hf) hsl (hF.pg.six f hf) hal
  have hoff := offs (a := argN F f.code * 16) (by omega) hsl f.slots.length (Nat.le_refl _)
  rw [List.take_of_length_le (Nat.le_refl _)] at hoff
  have hbb := basF_b (a := argN F f.code * 16) (by omega) hsl f.slots.length (Nat.le_refl _)
  rw [List.take_of_length_le (Nat.le_refl _)] at hbb
  have hal0 := powB_b hal
  have hup := upM_b (basF (argN F f.code * 16) f.slots).2 (show 0 < al by omega)
  have hSd : (lowF F al f).size = upM (basF (argN F f.code * 16) f.slots).2 al := rfl
  obtain ⟨S, hSe⟩ : ∃ S, (lowF F al f).size = S := ⟨_, rfl⟩
  rw [hSe] at hS hSd ⊢
  have hslot : ∀ k : Int, 0 ≤ k → k < f.slots.length → ∃ o, (basF (argN F f.code * 16) f.slots).1.getD k.toNat 0 = o ∧ 0 ≤ o ∧ o + sizeAt f.slots k ≤ S ∧ szB (sizeAt f.slots k) = true := fun k h0 h1 => by
    obtain ⟨j, rfl⟩ := Int.eq_ofNat_of_zero_le h0
    have hj : j < f.slots.length := by omega
    obtain ⟨o, q1, q2, q3⟩ := hoff j hj hj
    have hz := hsl _ (List.getElem_mem hj)
    unfold slotB at hz
    rw [Bool.and_eq_true] at hz
    rw [sz_at hj]
    exact ⟨o, by rw [Int.toNat_natCast, List.getD_eq_getElem?_getD, q1]; rfl, by omega, by omega, hz.1⟩
  have harg : x.op = 18 → 16 * x.a + 16 ≤ S := fun h18 => by
    obtain ⟨j, hj, rfl⟩ := List.mem_iff_getElem.1 hx
    have h := (argN_ge (F := F) f.code.length (Nat.le_refl _) j hj hj).1 h18
    rw [List.take_of_length_le (Nat.le_refl _)] at h
    omega
  clear hoff hbb hup hSd hx hins
  obtain ⟨os, hos⟩ : ∃ os, (basF (argN F f.code * 16) f.slots).1 = os := ⟨_, rfl⟩
  rw [hos] at hslot ⊢
  clear hos
  obtain ⟨o, a, b, c, m⟩ := x
  simp only at ho e1 e2 e3 hm hmv harg
  rcases g25 ho.1 ho.2 with rfl | rfl | rfl | rfl | rfl | rfl | rfl | rfl | rfl | rfl | rfl | rfl | rfl | rfl | rfl | rfl | rfl | rfl | rfl | rfl | rfl | rfl | rfl | rfl | rfl
  case inr.inr.inr.inr.inr.inr.inr.inr.inr.inr.inr.inr.inr.inr.inr.inl =>
    obtain ⟨z, z1, z2, z3, z4⟩ := hslot b (withB_true.1 e2).1 (withB_true.1 e2).2
    have hb := szB_b z4
    rw [show lowX os f.slots S ⟨15, a, b, c, m⟩ = ⟨15, a, z, sizeAt f.slots b, 0⟩ from by rw [← z1]; rfl]
    exact ⟨rfl, mop1 e1, mop2, mop3 z4, .inr rfl, cov_rd rfl rfl hS.1 z2 (by simp only; omega) (by simp only; omega) (by simp only; omega)⟩
  case inr.inr.inr.inr.inr.inr.inr.inr.inr.inr.inr.inr.inr.inr.inr.inr.inl =>
    obtain ⟨z, z1, z2, z3, z4⟩ := hslot a (withB_true.1 e1).1 (withB_true.1 e1).2
    have hb := szB_b z4
    rw [show lowX os f.slots S ⟨16, a, b, c, m⟩ = ⟨16, z, b, sizeAt f.slots a, 0⟩ from by rw [← z1]; rfl]
    exact ⟨rfl, mop2, mop1 e2, mop3 z4, .inr rfl, cov_wr rfl rfl hp.1 hS.1 z2 (by simp only; omega) (by simp only; omega) (by simp only; omega)⟩
  case inr.inr.inr.inr.inr.inr.inr.inr.inr.inr.inr.inr.inr.inr.inr.inr.inr.inl =>
    obtain ⟨z, z1, z2, z3, z4⟩ := hslot a (withB_true.1 e1).1 (withB_true.1 e1).2
    obtain ⟨y, y1, y2, y3, y4⟩ := hslot b (withB_true.1 e2).1 (withB_true.1 e2).2
    have hb := szB_b z4
    have heq : sizeAt f.slots a = sizeAt f.slots b := by
      unfold moveBad at hmv
      simpa using hmv
    rw [show lowX os f.slots S ⟨17, a, b, c, m⟩ = ⟨17, z, y, sizeAt f.slots a, 0⟩ from by rw [← z1, ← y1]; rfl]
    refine ⟨rfl, mop2, mop2, mop3 z4, .inr rfl, ?_⟩
    unfold covB rdI wrI
    rw [show rdB 17 = true from rfl, show wrB 17 = true from rfl]
    simp only [if_true]
    rw [insB_of y2 (by omega) (by omega) (by omega), insB_of z2 (by omega) (by omega) (by omega)]
    rfl
  case inr.inr.inr.inr.inr.inr.inr.inr.inr.inr.inr.inr.inr.inr.inr.inr.inr.inr.inl =>
    have h1 := withB_true.1 (show withB a 8 = true from e1)
    have h2 := harg rfl
    rw [show lowX os f.slots S ⟨18, a, b, c, m⟩ = ⟨16, 16 * a, b, 16, 0⟩ from rfl]
    exact ⟨rfl, mop2, mop1 e2, mop3 (show szB 16 = true by decide), .inr rfl, cov_wr rfl rfl hp.1 hS.1 (by simp only; omega) (by simp only; omega) (by simp only; omega) (by simp only; omega)⟩
  case inr.inr.inr.inr.inr.inr.inr.inr.inr.inr.inr.inr.inr.inr.inr.inr.inr.inr.inr.inl =>
    have h1 := withB_true.1 (show withB b f.params = true from e2)
    rw [show lowX os f.slots S ⟨19, a, b, c, m⟩ = ⟨15, a, S + 16 * b, 16, 0⟩ from rfl]
    exact ⟨rfl, mop1 e1, mop2, mop3 (show szB 16 = true by decide), .inr rfl, cov_rd rfl rfl hS.1 (by simp only; omega) (by simp only; omega) (by simp only; omega) (by simp only; omega)⟩
  all_goals
    refine ⟨rfl, ?_, ?_, ?_, hm, cov_none rfl rfl hp.1 hS.1⟩
    · first | exact mop0 e1 | exact mop1 e1 | exact mop4 e1 | exact mop5 e1
    · first | exact mop0 e2 | exact mop1 e2 | exact mop4 e2 | exact mop5 e2
    · first | exact mop0 e3 | exact mop1 e3 | exact mop4 e3 | exact mop5 e3
theorem closed_ops {l l' : List Ins} (h : l'.map (fun x => termB x.op) = l.map (fun x => termB x.op)) : closedB l' = closedB l := by
  have e : ∀ m : List Ins, closedB m = ((m.map (fun x => termB x.op)).getLast?).getD false := fun m => by
    unfold closedB
    rw [List.getLast?_map]
    cases m.getLast? <;> rfl
  rw [e, e, h]
/-- A frame of the drawn target. -/
structure FG (N : Nat) (al : Int) (ps : List Int) (q : Fm) : Prop where
  p : 0 ≤ q.params ∧ q.params ≤ 8
  s : 0 ≤ q.size ∧ q.size ≤ 268435456
  d : q.size % al = 0
  n : q.code.length ≤ 1024
  g : ∀ x ∈ q.code, GI N (q.code.length : Nat) q.params q.size x
  cl : closedB q.code = true
  call : ∀ x ∈ q.code, x.op = 22 → 16 * ((ps[x.a.toNat]?).getD 0) ≤ q.size
  imm : ∀ x ∈ q.code, 0 ≤ x.imm ∧ x.imm ≤ 18446744073709551615
theorem fm_zero {N : Nat} {al : Int} {ps : List Int} {q : Fm} (h : FG N al ps q) (hal : powB al = true) : fmE al N q = 0 := by
  have hs : shB al q = true := by
    unfold shB
    have h1 := h.p
    have h2 := h.s
    rw [hal, withB_true.2 (show 0 ≤ q.params ∧ q.params < 9 by omega), withB_true.2 (show 0 ≤ q.size ∧ q.size < 2147483520 by omega), decide_eq_true h.d]
    rfl
  have hf : firstE (q.code.map (minsE N q)) = 0 := firstE_zero.2 fun e he => by
    obtain ⟨x, hx, rfl⟩ := List.mem_map.1 he
    exact (h.g x hx).zero
  have hn := h.n
  unfold fmE
  rw [if_neg (by rw [hs]; decide), if_neg (by omega), if_neg (by rw [hf]; decide), if_neg (by rw [h.cl]; decide)]
theorem low_fg {F : Pg} {funcs most i : Nat} (h : PgGood funcs most F) (hf2 : funcs ≤ 80) (hm : most ≤ 100) {al : Int} (hal : powB al = true) {f : Fn} (hf : F[i]? = some f) : FG F.length al (F.map Fn.params) (lowF F al f) := by
  have hl := good_low h hf2 hm
  have hfm := List.mem_of_getElem? hf
  have hfn := (pgE_zero.1 h.err).2.2 f hfm
  obtain ⟨hc, hsl0, hp, hins, hcl⟩ := fnE_zero.1 hfn
  have hgd := (h.fn i f hf).1
  have hal0 := powB_b hal
  have hlen : (lowF F al f).code.length = f.code.length := by unfold lowF; simp
  have hS := low_size (hl.pg.arg f hfm) (hl.pg.slot f hfm) (hl.pg.six f hfm) hal
  refine ⟨hp, hS, Int.emod_eq_zero_of_dvd (upM_dvd _ _), by rw [hlen]; exact hc, fun y hy => ?_, ?_, fun y hy h22 => ?_, fun y hy => ?_⟩
  · obtain ⟨x, hx, rfl⟩ := List.mem_map.1 (show y ∈ f.code.map _ from hy)
    rw [hlen]
    exact low_gi hl hfm hfn hal hx
  · rw [← hcl]
    refine closed_ops ?_
    show (f.code.map _).map _ = _
    rw [List.map_map]
    exact List.map_congr_left fun x _ => term_low _ _ _ x
  · obtain ⟨x, hx, rfl⟩ := List.mem_map.1 (show y ∈ f.code.map _ from hy)
    have hx22 : x.op = 22 := by
      unfold lowX at h22
      by_cases a1 : x.op = 15
      · rw [if_pos a1] at h22; simp at h22
      · rw [if_neg a1] at h22
        by_cases a2 : x.op = 16
        · rw [if_pos a2] at h22; simp at h22
        · rw [if_neg a2] at h22
          by_cases a3 : x.op = 17
          · rw [if_pos a3] at h22; simp at h22
          · rw [if_neg a3] at h22
            by_cases a4 : x.op = 18
            · rw [if_pos a4] at h22; simp at h22
            · rw [if_neg a4] at h22
              by_cases a5 : x.op = 19
              · rw [if_pos a5] at h22; simp at h22
              · rw [if_neg a5] at h22; exact h22
    have hxe : lowX (basF (argN F f.code * 16) f.slots).1 f.slots (upM (basF (argN F f.code * 16) f.slots).2 al) x = x := by
      unfold lowX
      rw [if_neg (by omega), if_neg (by omega), if_neg (by omega), if_neg (by omega), if_neg (by omega)]
    rw [hxe]
    obtain ⟨j, hj, rfl⟩ := List.mem_iff_getElem.1 hx
    have hg := (argN_ge (F := F) f.code.length (Nat.le_refl _) j hj hj).2 hx22
    rw [List.take_of_length_le (Nat.le_refl _)] at hg
    have hab := argN_b (hl.pg.arg f hfm) f.code.length
    rw [List.take_of_length_le (Nat.le_refl _)] at hab
    have hbb := basF_b (a := argN F f.code * 16) (by omega) (hl.pg.slot f hfm) f.slots.length (Nat.le_refl _)
    rw [List.take_of_length_le (Nat.le_refl _)] at hbb
    have hup := upM_b (basF (argN F f.code * 16) f.slots).2 (show 0 < al by omega)
    have hSd : (lowF F al f).size = upM (basF (argN F f.code * 16) f.slots).2 al := rfl
    rw [List.getElem?_map]
    omega
  · obtain ⟨x, hx, rfl⟩ := List.mem_map.1 (show y ∈ f.code.map _ from hy)
    have hi := hgd.imm x hx
    unfold immI at hi
    unfold lowX
    (repeat' split) <;> first | exact hi | exact ⟨by decide, by decide⟩ | (simp only; omega)
theorem var_fg {N : Nat} {al : Int} {ps : List Int} {f q : Fm} (h : FG N al ps f) (hp : q.params = f.params) (hs : q.size = f.size) (hc : CdVar f.size f.code q.code) : FG N al ps q := by
  have hlen := hc.1
  have hx : ∀ y ∈ q.code, ∃ x ∈ f.code, (y = x ∨ (x.op = 16 ∧ ∃ t : Int, 0 ≤ t ∧ t + x.c ≤ f.size ∧ y = ⟨16, t, x.b, x.c, x.imm⟩)) := fun y hy => by
    obtain ⟨j, hj, rfl⟩ := List.mem_iff_getElem.1 hy
    have hjl : j < f.code.length := by omega
    exact ⟨f.code[j], List.getElem_mem hjl, hc.2 j _ _ (List.getElem?_eq_getElem hjl) (List.getElem?_eq_getElem hj)⟩
  refine ⟨by rw [hp]; exact h.p, by rw [hs]; exact h.s, by rw [hs]; exact h.d, by rw [hlen]; exact h.n, fun y hy => ?_, ?_, fun y hy h22 => ?_, fun y hy => ?_⟩
  · rw [hlen, hp, hs]
    obtain ⟨x, hxm, rfl | ⟨ho, t, t0, t1, rfl⟩⟩ := hx y hy
    · exact h.g _ hxm
    · have g := h.g x hxm
      have gb := g.b
      have gc := g.c
      have gm := g.m
      rw [ho] at gb gc gm
      have hz : szB x.c = true := by
        cases e : szB x.c with
        | true => rfl
        | false =>
          have : mopE N (f.code.length : Nat) 3 x.c = 5 := by unfold mopE; rw [if_neg (by decide), if_neg (by decide), if_neg (by decide), if_pos rfl, if_neg (by rw [e]; decide)]
          rw [show (mshpOf 16).2.2.1 = 3 from rfl, this] at gc
          cases gc
      have hzb := szB_b hz
      have hS := h.s
      exact ⟨rfl, mop2, gb, gc, gm, cov_wr rfl rfl h.p.1 hS.1 t0 (by simp only; omega) (by simp only; omega) (by simp only; omega)⟩
  · rw [← h.cl]
    refine closed_ops (List.ext_getElem (by simp [hlen]) fun j h1 h2 => ?_)
    simp only [List.length_map] at h1 h2
    rw [List.getElem_map, List.getElem_map]
    rcases hc.2 j _ _ (List.getElem?_eq_getElem h2) (List.getElem?_eq_getElem h1) with e | ⟨ho, t, _, _, e⟩
    · rw [e]
    · rw [e, ho]
  · rw [hs]
    obtain ⟨x, hxm, rfl | ⟨ho, t, t0, t1, rfl⟩⟩ := hx y hy
    · exact h.call _ hxm h22
    · simp at h22
  · obtain ⟨x, hxm, rfl | ⟨ho, t, t0, t1, rfl⟩⟩ := hx y hy
    · exact h.imm _ hxm
    · exact h.imm x hxm
theorem draw_fg {F : Pg} {funcs most : Nat} {al : Int} {G : Tg} (h : PgGood funcs most F) (hf2 : funcs ≤ 80) (hm : most ≤ 100) (hal : powB al = true) (hv : StVar (F.map (lowF F al)) G) : G.length = F.length ∧ G.map Fm.params = F.map Fn.params ∧ ∀ q ∈ G, FG F.length al (F.map Fn.params) q := by
  have hlen : G.length = F.length := by rw [hv.1, List.length_map]
  have hat : ∀ (i : Nat) (q : Fm), G[i]? = some q → ∃ f, F[i]? = some f ∧ q.params = f.params ∧ FG F.length al (F.map Fn.params) q := fun i q hq => by
    have hi := (List.getElem?_eq_some_iff.1 hq).1
    have hfi := List.getElem?_eq_getElem (show i < F.length by omega)
    have h0 : (F.map (lowF F al))[i]? = some (lowF F al F[i]) := by rw [List.getElem?_map, hfi]; rfl
    obtain ⟨a1, a2, a3⟩ := hv.2 i _ q h0 hq
    exact ⟨F[i], hfi, a1, var_fg (low_fg h hf2 hm hal hfi) a1 a2 a3⟩
  refine ⟨hlen, List.ext_getElem? fun i => ?_, fun q hq => ?_⟩
  · rw [List.getElem?_map, List.getElem?_map]
    rcases hg : G[i]? with _ | q
    · have : F[i]? = none := List.getElem?_eq_none (by have := List.getElem?_eq_none_iff.1 hg; omega)
      rw [this]; rfl
    · obtain ⟨f, hf, hp, _⟩ := hat i q hg
      rw [hf]
      simp [hp]
  · obtain ⟨i, hi, rfl⟩ := List.mem_iff_getElem.1 hq
    exact (hat i _ (List.getElem?_eq_getElem hi)).choose_spec.2.2
theorem draw_zero {F : Pg} {funcs most : Nat} {al : Int} {G : Tg} (h : PgGood funcs most F) (hf2 : funcs ≤ 80) (hm : most ≤ 100) (hal : powB al = true) (h16 : 16 ≤ al) (hv : StVar (F.map (lowF F al)) G) : tgE al G = 0 := by
  obtain ⟨hlen, hps, hfg⟩ := draw_fg h hf2 hm hal hv
  obtain ⟨h80, ⟨f0, r0, hF0, hp0⟩, _⟩ := pgE_zero.1 h.err
  have hG1 : 0 < G.length := by rw [hlen, hF0]; simp
  have hq0 := List.getElem?_eq_getElem hG1
  have hpe : (G[0]).params = 0 := by
    have e := congrArg (fun l => l[0]?) hps
    simp only [List.getElem?_map] at e
    rw [hq0, hF0] at e
    simp at e
    rw [e]; exact hp0
  rw [tgE_rest (by omega) hq0 ⟨hal, h16⟩ hpe]
  have hf : firstE (G.map (fmE al G.length)) = 0 := firstE_zero.2 fun e he => by
    obtain ⟨q, hq, rfl⟩ := List.mem_map.1 he
    rw [hlen]
    exact fm_zero (hfg q hq) hal
  rw [if_neg (by rw [hf]; decide)]
  have hroom : G.all (roomB G) = true := List.all_eq_true.2 fun q hq => List.all_eq_true.2 fun x hx => by
    by_cases h22 : x.op = 22
    · have hc := (hfg q hq).call x hx h22
      rw [← hps, List.getElem?_map] at hc
      unfold callB
      rw [decide_eq_true h22, Bool.true_and, decide_eq_false (by omega)]
      rfl
    · exact callB_other h22
  rw [if_pos hroom]
end Go.Proofs.YtafegghdhdgioabGreat
end

section
/-
  The contract of spillframedraw's Input: at most three numbers, in a row of the call's own. Condition: the receiver is a list of choices.
-/
namespace Go.Proofs.YtafegghdhdgioabGreat
open Go.RowKit

theorem info_u64 : (Tryz.prog.info? 36).map (fun i => (i.zero, i.size, i.bytes)) = some (some (.int .u64 0), 1, 8) := by kernel_rfl
theorem inp_new (w : World) (x : Value) (t : TypeId) : ∀ (j : Nat) (u : Value), [x][j]? = some u → (w.alloc (.cells #[x] t)).cell? ((⟨w.heap.size, 0, none⟩ : Addr).add j) = some u := by
  intro j u hu
  rw [WideShapes.add_plain, Nat.zero_add]
  exact (Row.new w t [x]).cell hu
theorem ucells_length (l : List Nat) : (ucells l).length = l.length := by simp [ucells]
theorem ucells_add (l : List Nat) (v : Nat) : ucells (l ++ [v]) = ucells l ++ [.int .u64 (v : Int)] := by simp [ucells]
/-- What the loop keeps. -/
def InpRel (w0 : World) (g : Nat) (nv lv : Value) (wr : World) : Prop :=
  ∃ (k : Nat) (l : List Nat), k + l.length ≤ 3 ∧ nv = .int .i64 (k : Int) ∧ wr.ownsRow w0.heap.size 36 1 lv l.length (ucells l) ∧ (∀ v ∈ l, v < 18446744073709551616) ∧ Codes wr g ∧ w0.grownBy wr (some g)
def InpPost (g : Nat) (w : World) (e : Ending) (w' : World) : Prop :=
  ∃ (A : Option Addr) (n c : Nat) (l : List Nat), e = .returned (.slice A n c) ∧ l.length = n ∧ n ≤ 3 ∧ (A = none → c = 0) ∧ w'.ownsRow w.heap.size 36 1 (.slice A n c) n (ucells l) ∧ (∀ v ∈ l, v < 18446744073709551616) ∧ Codes w' g ∧ w.grownBy w' (some g)
section
variable {w0 wr w2 w3 : World} {g : Nat} {lv v' : Value} {l : List Nat}
theorem inp_far (ho : wr.ownsRow w0.heap.size 36 1 lv l.length (ucells l)) (hg : g < w0.heap.size) : lv.ownBlock = none ∨ lv.ownBlock ≠ some g := by
  cases e : lv.ownBlock with
  | none => exact .inl rfl
  | some k => exact .inr fun h => by have := (ho.lt k e).1; injection h with h; omega
theorem InpRel.step {k : Nat} {x : Int} (hk : k + 1 + l.length ≤ 3) (hg : g < w0.heap.size) (ho : w2.ownsRow w0.heap.size 36 1 lv l.length (ucells l)) (hok : ∀ v ∈ l, v < 18446744073709551616) (hx : isW x) (hC : Codes w2 g) (hG : w0.grownBy w2 (some g))
    (ho' : w3.ownsRow w0.heap.size 36 1 v' (l.length + 1) (ucells l ++ [.int .u64 x])) (hg' : (w2.alloc (.cells #[.int .u64 x] 36)).grownBy w3 lv.ownBlock) :
    InpRel w0 g (.int .i64 (k : Int)) v' w3 := by
  obtain ⟨v, rfl⟩ := Int.eq_ofNat_of_zero_le hx.1
  have hv := hx.2
  refine ⟨k, l ++ [v], by simp; omega, rfl, ?_, fun u hu => ?_, (hC.alloc _).kept hg' (fun j hj => ?_), (hG.trans (World.grownBy_alloc _ _ _)).andThen hg' (fun j hj => .inl (ho.lt j hj).1)⟩
  · rw [ucells_add]
    simpa using ho'
  · rcases List.mem_append.1 hu with h | h
    · exact hok u h
    · simp at h; subst h; omega
  · have := (ho.lt j hj).1
    omega
theorem InpRel.start {k : Nat} (hk : k ≤ 3) (hC : Codes wr g) (hG : w0.grownBy wr (some g)) : InpRel w0 g (.int .i64 (k : Int)) (.slice none 0 0) wr :=
  ⟨k, [], by simpa using hk, rfl, ⟨by simp [ucells], .inl ⟨rfl, rfl⟩⟩, (fun u hu => by cases hu), hC, hG⟩
end

set_option maxRecDepth 100000 in
set_option maxHeartbeats 1000000 in
theorem input_any (g : Nat) (w : World) (h : Hid (Codes w g)) : Calls Tryz.prog 18 #[.pointer (some ⟨g, 0, none⟩)] w (InpPost g w) := by
  obtain ⟨i0, hi, hz0, hz1, hz2⟩ := info_parts info_u64
  have hg := h.out.lt
  go_enter Tryz.func18, Tryz.ntmps18
  go_wp2_with fail
  refine (next_any g _ _ h (by omega) (by omega)).mono ?_
  rintro e w1 ⟨v, rfl, v0, v1, hC, hG, hz⟩
  clear hz
  obtain ⟨k, rfl⟩ := Int.eq_ofNat_of_zero_le v0
  have HR := hide (InpRel.start (by omega : k ≤ 3) hC hG)
  clear hC hG v0 v1
  go_wp2_with fail
  go_loopw [4, 3] (fun nv lv wr => Hid (InpRel w g nv lv wr)) (fun nv _ _ => (intOf nv).toNat)
  case atStart => exact HR
  case round =>
    obtain ⟨k, l, hk, rfl, ho, hok, hC, hG⟩ := hrel.out
    have Hok := hide hok
    have HC := hide hC
    have HG := hide hG
    clear HR hrel hok hC hG
    by_cases hlt : 0 < k
    · have hlt' : (0 : Int) < (k : Int) := by omega
      obtain ⟨j, rfl⟩ : ∃ j, k = j + 1 := ⟨k - 1, by omega⟩
      go_wp2_with fail
      refine (cword_any g _ HC).mono ?_
      rintro e w2 ⟨x, rfl, hx, hC2, hG2, hz2⟩
      have ho2 := ho.kept hG2 (inp_far ho hg)
      have HX := hide hx
      have HC2 := hide hC2
      have HG2 := hide (HG.out.trans hG2)
      have hbs : w.heap.size ≤ w2.heap.size := HG2.out.size
      clear hx hC2 hG2 ho hz2
      go_wp2_with (at_builtin; refine wpList_append_own _ rfl (.tmp 11) (.tmp 14) 27 rfl w.heap.size 36 i0 (.int .u64 0) 1 8 Tryz.underlying27 hi hz0 hz1 hz2 rfl (by decide) _ l.length (ucells l) rfl (ho2.alloc _) ⟨w2.heap.size, 0, none⟩ 1 1 [.int .u64 x] rfl rfl (inp_new _ _ _) (fun u hu => by simp at hu; subst hu; rfl) (by unfold maxLen; omega) (by omega) (by simp; omega) ?_)
      intro v' w3 ho3 hg3 _
      have R := hide (InpRel.step (k := j) (by omega : j + 1 + l.length ≤ 3) hg ho2 Hok.out HX.out HC2.out HG2.out ho3 hg3)
      clear ho3 hg3 ho2
      go_wp2_with fail
      go_roundw
      case rel => first | exact R | (have e : ((j + 1 : Nat) : Int) - 1 = (j : Int) := by omega
                                     simpa [e] using R)
      case measure => simp [intOf]
    · obtain rfl : k = 0 := by omega
      obtain ⟨A, c, rfl, hA, _⟩ := own_form ho
      have HO := hide ho
      clear ho
      go_wp2_with fail
      go_ret
      exact ⟨A, l.length, c, l, rfl, rfl, by omega, hA, HO.out, Hok.out, HC.out, HG.out⟩
end Go.Proofs.YtafegghdhdgioabGreat
end

section
/-
  Bytes as numbers; bytes at a slice; what a call on a drawn list leaves. No function of the program is named here.
-/
namespace Go.Proofs.YtafegghdhdgioabGreat
open Go.RowKit

/-- Bytes. -/
def Byt (l : List Int) : Prop := ∀ z ∈ l, 0 ≤ z ∧ z ≤ 255
theorem Byt.nil_ : Byt [] := fun z h => by cases h
theorem Byt.one {z : Int} (h0 : 0 ≤ z) (h1 : z ≤ 255) : Byt [z] := fun y h => by simp at h; subst h; exact ⟨h0, h1⟩
theorem Byt.cons {z : Int} {l : List Int} (h0 : 0 ≤ z) (h1 : z ≤ 255) (h : Byt l) : Byt (z :: l) := fun y hy => by
  rcases List.mem_cons.1 hy with rfl | hy
  · exact ⟨h0, h1⟩
  · exact h y hy
theorem Byt.app {l m : List Int} (h : Byt l) (h' : Byt m) : Byt (l ++ m) := fun z hz => by
  rcases List.mem_append.1 hz with h1 | h1
  · exact h z h1
  · exact h' z h1
theorem Byt.left {l m : List Int} (h : Byt (l ++ m)) : Byt l := fun z hz => h z (List.mem_append_left _ hz)
theorem Byt.right {l m : List Int} (h : Byt (l ++ m)) : Byt m := fun z hz => h z (List.mem_append_right _ hz)
theorem Byt.take {l : List Int} (h : Byt l) (n : Nat) : Byt (l.take n) := fun z hz => h z (List.mem_of_mem_take hz)
theorem Byt.drop {l : List Int} (h : Byt l) (n : Nat) : Byt (l.drop n) := fun z hz => h z (List.mem_of_mem_drop hz)
theorem Byt.flat {α : Type} {f : α → List Int} {l : List α} (h : ∀ a ∈ l, Byt (f a)) : Byt (l.flatMap f) := fun z hz => by
  obtain ⟨a, ha, hz⟩ := List.mem_flatMap.1 hz
  exact h a ha z hz
/-- Bytes at a slice, below block B. -/
structure BsAt (w : World) (B : Nat) (A : Option Addr) (n c : Nat) (zs : List Int) : Prop where
  len : zs.length = n
  nc : n ≤ c
  nil_ : A = none → c = 0
  cm : c ≤ 9223372036854775807
  byt : Byt zs
  see : Sees w B A (cellsU8 zs)
section
variable {w w' : World} {B B' n c : Nat} {A : Option Addr} {zs : List Int}
theorem BsAt.below (h : BsAt w B A n c zs) (hb : Below B w w') : BsAt w' B A n c zs := ⟨h.len, h.nc, h.nil_, h.cm, h.byt, h.see.below hb⟩
theorem BsAt.more (h : BsAt w B A n c zs) (hB : B ≤ B') : BsAt w B' A n c zs := ⟨h.len, h.nc, h.nil_, h.cm, h.byt, h.see.more hB⟩
theorem BsAt.call (h : BsAt w w.heap.size A n c zs) (hb : Below w.heap.size w w') : BsAt w' w'.heap.size A n c zs := (h.below hb).more hb.size
theorem BsAt.keep (h : BsAt w B A n c zs) (hk : ∀ p : Addr, p.block < B → w'.cell? p = w.cell? p) : BsAt w' B A n c zs := ⟨h.len, h.nc, h.nil_, h.cm, h.byt, h.see.keep hk⟩
theorem BsAt.own {base : Nat} {t : TypeId} (h : w.ownsRow base t 1 (.slice A n c) n (cellsU8 zs)) (hz : Byt zs) : BsAt w w.heap.size A n c zs := by
  obtain ⟨A', c', e, hA, hnc, _, hs⟩ := own_seen h
  obtain ⟨A'', c'', e', _, hcm⟩ := own_form h
  injection e with e1 _ e3
  subst e1 e3
  have hc : c ≤ maxLen := by
    rcases h.2 with ⟨he, h0⟩ | ⟨g, cap, cur, he, _, _, _, hm, _⟩
    · injection he with _ _ he; subst he; omega
    · injection he with _ _ he; omega
  exact ⟨by have := own_len h; simpa [cellsU8] using this, hnc, hA, by unfold maxLen at hc; exact hc, hz, hs⟩
/-- The first k bytes. -/
theorem BsAt.take (h : BsAt w B A n c zs) {k : Nat} (hk : k ≤ n) : BsAt w B A k c (zs.take k) := ⟨by rw [List.length_take, h.len]; omega, by have := h.nc; omega, h.nil_, h.cm, h.byt.take k, by have := h.see.take k; rwa [take_cells] at this⟩
end

theorem zero_pg (w : World) (lo B : Nat) : PgAt w lo B none 0 0 [] [] := ⟨rfl, ⟨fun _ => rfl, Nat.le_refl _, Nat.zero_le _⟩, Far.none _, Sees.nil_ _ _ _, ⟨rfl, fun k h f e => by simp at e⟩⟩
theorem below_inner {w w' w'' : World} {D : Nat} (h : Below w.heap.size w w') (hG : w'.grownBy w'' (some D)) (hD : w.heap.size ≤ D) : Below w.heap.size w w'' := h.grown hG h.size fun k hk => by injection hk with hk; omega
end Go.Proofs.YtafegghdhdgioabGreat
end

section
/-
  Chapter 12's awake and scene: a right target, inputs, fuel and the size of a stack. Conditions: those of the types.
-/
namespace Go.Proofs.YtafegghdhdgioabGreat
open Go.RowKit

def awF : Tg := [⟨0, 16, [⟨0, 0, 0, 0, 5⟩, ⟨23, 0, 0, 0, 0⟩]⟩]
theorem aw12_i : ImmT awF := by
  intro f hf x hx
  simp [awF] at hf
  subst hf
  simp at hx
  rcases hx with rfl | rfl
  · exact ⟨show (0 : Int) ≤ 5 by decide, show (5 : Int) ≤ 18446744073709551615 by decide⟩
  · exact ⟨Int.le_refl _, show (0 : Int) ≤ 18446744073709551615 by decide⟩
theorem aw12_e : runTE 16 awF 9 16 = 0 := by unfold runTE; decide
theorem aw12_s : (runTS 16 awF [] 9 16).c.steps = 2 ∧ (runTS 16 awF [] 9 16).c.res = 5 := by
  unfold runTS
  rw [if_pos aw12_e]
  exact ⟨by kernel_rfl, by kernel_rfl⟩
set_option maxRecDepth 100000 in
set_option maxHeartbeats 4000000 in
theorem awake12_any (w : World) : Calls Tryz.prog 6 #[] w fun e w' => e = .returned (.bool true) ∧ Below w.heap.size w w' := by
  obtain ⟨W, hW⟩ : ∃ W, (w.alloc (.cells #[.int .i64 0, .int .i64 0, .int .i64 0, .int .i64 0, .int .u64 5, .int .i64 23, .int .i64 0, .int .i64 0, .int .i64 0, .int .u64 0] 52)).alloc (.cells #[.int .i64 0, .int .i64 16, .slice (some ⟨w.heap.size, 0, none⟩) 2 2] 55) = W := ⟨_, rfl⟩
  have HW := hide hW
  have hb := hide (show Below w.heap.size w W by rw [← hW]; exact below2 w _ _)
  have r0 := hide (show Row W w.heap.size 52 (icells [⟨0, 0, 0, 0, 5⟩, ⟨23, 0, 0, 0, 0⟩]) by rw [← hW]; exact (Row.new w _ (icells [⟨0, 0, 0, 0, 5⟩, ⟨23, 0, 0, 0, 0⟩])).alloc _)
  have r1 := hide (show Row W (w.heap.size + 1) 55 (fdcells [⟨0, 16, some ⟨w.heap.size, 0, none⟩, 2, 2⟩]) by rw [← hW]; exact (Row.new _ 55 [.int .i64 0, .int .i64 16, .slice (some ⟨w.heap.size, 0, none⟩) 2 2]).at_ (by simp))
  have HT := hide (show TgAt W 0 W.heap.size (some ⟨w.heap.size + 1, 0, none⟩) 1 1 [⟨0, 16, some ⟨w.heap.size, 0, none⟩, 2, 2⟩] awF from
    ⟨rfl, ⟨(fun e => by cases e), Nat.le_refl _, by omega⟩, Far.zero _, fun k u hu => ⟨w.heap.size + 1, 0, rfl, r1.out.lt, by rw [Nat.zero_add]; exact r1.out.cell hu⟩, ⟨rfl, fun j h f h1 h2 => by
      rcases j with _ | j
      · injection h1 with h1
        injection h2 with h2
        subst h1
        subst h2
        exact ⟨rfl, rfl, rfl, ⟨(fun e => by cases e), Nat.le_refl _, show (2 : Nat) ≤ 8796093022208 by omega⟩, Far.zero _, fun k u hu => ⟨w.heap.size, 0, rfl, r0.out.lt, by rw [Nat.zero_add]; exact r0.out.cell hu⟩⟩
      · simp at h1⟩⟩)
  have cc := tout_any 16 awF [] 9 16 none 0 0 W (hide aw12_i) (hide ⟨none, 0, 0, rfl, rfl, Nat.le_refl _, by omega, fun _ => rfl, Sees.nil_ _ _ _⟩) (hide (fun v hv => by cases hv)) HT
  unfold OutT at cc
  rw [aw12_e] at cc
  clear hW
  go_enter Tryz.func6, Tryz.ntmps6
  go_wp2_with fail
  rw [HW.out]
  refine cc.mono ?_
  rintro e w2 ⟨vt, rfl, hto, hb2⟩
  obtain ⟨At, ct, rfl⟩ := own_shape hto
  clear hto
  generalize (runTS 16 awF [] 9 16).c.trace.length = nt
  obtain ⟨c, hc⟩ : ∃ c, (runTS 16 awF [] 9 16).c = c := ⟨_, rfl⟩
  have hs := aw12_s
  rw [hc] at hs ⊢
  have hs1 : (c.steps : Int) = 2 := by omega
  have hs2 : lo c.res = 5 := by rw [hs.2]; rfl
  unfold tocells
  rw [hs1, hs2]
  have HB := hide (hb.out.trans (hb2.mono hb.out.size))
  clear hb2 cc r0 r1 HW hb hc hs
  have HB2 := hide (HB.out.alloc HB.out.size (.cells #[.int .i64 c.kind, .int .u64 c.code, .int .u64 5, .int .u64 (hi c.res), (.slice At nt ct), .int .i64 2] 41))
  go_wp2_with fail
  go_ret
  exact ⟨rfl, HB2.out⟩
theorem own_in {w : World} {base n c : Nat} {A : Option Addr} {e : TypeId} {l : List Nat} (h : w.ownsRow base e 1 (.slice A n c) n (ucells l)) (hl : l.length = n) : InAt w w.heap.size (.slice A n c) l := by
  refine ⟨A, n, c, rfl, hl, (own_le h).2, ?_, (own_le h).1, Sees.own h⟩
  rcases h.2 with ⟨he, h0⟩ | ⟨g, cap, cur, he, _, _, _, hm, _⟩
  · injection he with e1 e2 e3; omega
  · injection he with e1 e2 e3
    unfold maxLen at hm
    omega
/-- What scene gives. -/
def ScPost (w : World) (e : Ending) (w' : World) : Prop :=
  ∃ (Al : Int) (A : Option Addr) (n c : Nat) (hh : List Fd) (G : Tg) (Ai : Option Addr) (ni ci : Nat) (inp : List Nat) (fuel size gk lo : Nat),
    e = .returned (.tuple #[tv Al A n c, .slice Ai ni ci, .int .i64 (fuel : Int), .int .i64 (size : Int), .pointer (some ⟨gk, 0, none⟩)]) ∧ TgAt w' lo w'.heap.size A n c hh G ∧ tgE Al G = 0 ∧ ImmT G ∧ (∀ q ∈ G, 1 ≤ q.code.length ∧ q.code.length ≤ 1024) ∧ 1 ≤ n ∧ n ≤ 4 ∧
    InAt w' w'.heap.size (.slice Ai ni ci) inp ∧ (∀ v ∈ inp, v < 18446744073709551616) ∧ fuel < 256 ∧ size ≤ 1279 ∧ gk < lo ∧ lo ≤ w'.heap.size ∧ w.heap.size ≤ gk ∧ Codes w' gk ∧ Below w.heap.size w w'
theorem Codes.into {w : World} {g k j t : Nat} {cs : List Value} {u0 : Value} (h : Codes w g) (hr : Row w k t cs) (hk : g ≠ k) (hc : w.cell? ⟨k, j, none⟩ = some u0) (hu : ∀ z : Int, u0 ≠ .int .u8 z) (u : Value) : Codes (w.setCell ⟨k, j, none⟩ u) g := by
  obtain ⟨A, n, c, zs, i, r, s, h1, h2, h3, h4⟩ := h
  refine ⟨A, n, c, zs, i, r.far (p := ⟨k, j, none⟩) (fun e => hk e) u, ?_, h1, h2, h3, h4⟩
  intro q v hq
  obtain ⟨bl, off, e, hbl, hcc⟩ := s q v hq
  refine ⟨bl, off, e, hbl, ?_⟩
  have hv : ∃ z, v = .int .u8 z := by
    have := List.mem_of_getElem? hq
    simp only [cellsU8, List.mem_map] at this
    obtain ⟨z, _, rfl⟩ := this
    exact ⟨z, rfl⟩
  rw [World.cell?_setCell_other _ _ _ _ (fun e2 => by
    obtain ⟨z, rfl⟩ := hv
    rw [← e2, hc] at hcc
    injection hcc with hcc
    exact hu z hcc)]
  exact hcc
theorem sc_end {w v : World} {al : Int} {A Ai : Option Addr} {n c ni ci g lo ib : Nat} {hh : List Fd} {G : Tg} {inp : List Nat}
    (RR : Row v w.heap.size 26 [.int .i64 0, .slice none 0 0]) (HG : TgAt v lo v.heap.size A n c hh G) (HI : v.ownsRow ib 36 1 (.slice Ai ni ci) ni (ucells inp)) (hil : inp.length = ni) (hC : Codes v g) (hB : Below w.heap.size w v) (hwg : w.heap.size < g) (hgl : g < lo) (hgb : g < ib) :
    ∃ V, (v.setCell ⟨w.heap.size, 0, none⟩ (.int .i64 al)).setCell ⟨w.heap.size, 1, none⟩ (.slice A n c) = V ∧ Row V w.heap.size 26 [.int .i64 al, .slice A n c] ∧ TgAt V lo V.heap.size A n c hh G ∧ InAt V V.heap.size (.slice Ai ni ci) inp ∧ Codes V g ∧ Below w.heap.size w V ∧ V.heap.size = v.heap.size := by
  have hs : ((v.setCell ⟨w.heap.size, 0, none⟩ (.int .i64 al)).setCell ⟨w.heap.size, 1, none⟩ (.slice A n c)).heap.size = v.heap.size := by simp [World.setCell]
  refine ⟨_, rfl, (RR.set_ 0 _).set_ 1 _, ?_, ?_, ?_, ?_, hs⟩
  · rw [hs]
    refine HG.keep fun p h1 h2 => ?_
    rw [World.cell?_setCell_other _ _ _ _ (fun e => by have e2 := congrArg Addr.block e; simp only at e2; omega), World.cell?_setCell_other _ _ _ _ (fun e => by have e2 := congrArg Addr.block e; simp only at e2; omega)]
  · have g0 := grown_put1 v w.heap.size 0 (.int .i64 al)
    have I1 := HI.kept g0 (own_off HI (by omega))
    have g1 := grown_put1 (v.setCell ⟨w.heap.size, 0, none⟩ (.int .i64 al)) w.heap.size 1 (.slice A n c)
    exact own_in (I1.kept g1 (own_off I1 (by omega))) hil
  · have R1 := RR.set_ 0 (.int .i64 al)
    exact (hC.into RR (by omega) (RR.cell (k := 0) rfl) (fun z e => by cases e) (.int .i64 al)).into R1 (by omega) (R1.cell (k := 1) rfl) (fun z e => by cases e) (.slice A n c)
  · exact (hB.setCell (p := ⟨w.heap.size, 0, none⟩) (Nat.le_refl _) _).setCell (p := ⟨w.heap.size, 1, none⟩) (Nat.le_refl _) _
set_option maxRecDepth 100000 in
set_option maxHeartbeats 4000000 in
theorem scene12_any (A0 : Option Addr) (n0 c0 : Nat) (zs : List Int) (w : World)
    (hA : Hid (A0 = none → c0 = 0)) (hn : Hid (zs.length = n0)) (hnc : n0 ≤ c0) (hm : n0 ≤ 9223372036854775807) (hs : Hid (Sees w w.heap.size A0 (cellsU8 zs))) (hz : Hid (∀ z ∈ zs, 0 ≤ z ∧ z ≤ 255)) :
    Calls Tryz.prog 7 #[.slice A0 n0 c0] w (ScPost w) := by
  obtain ⟨W1, hW1⟩ : ∃ W, w.alloc (.cells #[.int .i64 0, .slice none 0 0] 26) = W := ⟨_, rfl⟩
  have HW1 := hide hW1
  have RR1 := hide (show Row W1 w.heap.size 26 [.int .i64 0, .slice none 0 0] by rw [← hW1]; exact Row.new w _ _)
  have hb1 : Below w.heap.size w W1 := by rw [← hW1]; exact below1 w _
  have HB1 := hide hb1
  have cn := new_any A0 n0 c0 zs 300 W1 hA hn hnc hm (by omega) (hide ((hs.out.below hb1).more hb1.size)) hz
  rw [show ((300 : Nat) : Int) = 300 from rfl] at cn
  have hsz1 : W1.heap.size = w.heap.size + 1 := by rw [← hW1]; simp
  clear hW1 hb1 hs hA hn hz
  go_enter Tryz.func7, Tryz.ntmps7
  go_upto_region 1 with (fail)
  rw [HW1.out]
  clear HW1
  go_wp2_with fail
  refine cn.mono ?_
  rintro e w2 ⟨rfl, hC2, hb2⟩
  obtain ⟨g, hg⟩ : ∃ g, W1.heap.size = g := ⟨_, rfl⟩
  have HB2 := hide (below_call HB1.out hb2)
  have RR2 := hide (RR1.out.call hb2)
  have hwg : w.heap.size < g := by omega
  rw [hg] at hC2 ⊢
  have hgl := hC2.lt
  have cd := dtx_any g 4 12 w2 (hide hC2) (by omega) (by omega) (by omega)
  rw [show ((4 : Nat) : Int) = 4 from rfl, show ((12 : Nat) : Int) = 12 from rfl] at cd
  clear hb2 cn hg hC2 hsz1
  go_wp2_with fail
  refine cd.mono ?_
  rintro e w3 ⟨F, A, n, c, hh, G, rfl, htg, hn1, hn2, hFl, hgd, hap, h16, hsv, hC3, hG3⟩
  have hfg := (draw_fg hgd (by omega) (by omega) hap hsv).2.2
  have HI3 := hide (show ImmT G from fun q hq x hx => (hfg q hq).imm x hx)
  have HL3 := hide (show ∀ q ∈ G, 1 ≤ q.code.length ∧ q.code.length ≤ 1024 from fun q hq => ⟨closed_some (hfg q hq).cl, (hfg q hq).n⟩)
  have HE3 := hide (draw_zero hgd (by omega) (by omega) hap h16 hsv)
  obtain ⟨al, hal⟩ : ∃ a, alP F n = a := ⟨_, rfl⟩
  rw [hal] at HE3 ⊢
  obtain ⟨P, hP⟩ : ∃ P, w3.heap.size = P := ⟨_, rfl⟩
  obtain ⟨W4, hW4⟩ : ∃ V, w3.alloc (.cells #[.int .i64 al, .slice A n c] 26) = V := ⟨_, rfl⟩
  have HW4 := hide hW4
  have HPP := hide hP
  have h34 : Below w3.heap.size w3 W4 := by rw [← hW4]; exact below1 w3 _
  have B4 := hide (below_call (below_grown HB2.out hG3 (by omega) HB2.out.size) h34)
  have R4 := hide (show Row W4 P 26 [.int .i64 al, .slice A n c] by rw [← hW4, ← hP]; exact Row.new w3 _ _)
  have RR4 := hide ((RR2.out.grown hG3 (fun e => by injection e with e; omega)).call h34)
  have G4 := hide (htg.call h34)
  have C4 := hide (hC3.below h34)
  have hs34 := h34.size
  have hs23 := hG3.size
  have hgP : g < P := by omega
  obtain ⟨lo, hlo⟩ : ∃ lo, w2.heap.size = lo := ⟨_, rfl⟩
  rw [hlo] at G4 hgl hs23
  have hloP : lo ≤ P := by omega
  clear hal hP hW4 htg hG3 hgd hap h16 hsv cd HB2 HB1 hC3 h34 hfg hlo RR1 RR2
  go_upto_region 3 with (fail)
  rw [HW4.out, HPP.out]
  clear HW4 HPP
  have hP4 := hide (show P < W4.heap.size from R4.out.lt)
  go_wp2_with fail
  refine (input_any g W4 C4).mono ?_
  rintro e w5 ⟨Ai, ni, ci, inp, rfl, hil, hin, hiA, hio, hiv, hC5, hG5⟩
  have HIV := hide hiv
  have HIL := hide hil
  have hgb : g < W4.heap.size := by have := R4.out.lt; omega
  obtain ⟨ib, hib⟩ : ∃ ib, W4.heap.size = ib := ⟨_, rfl⟩
  have I5 := hide hio
  rw [hib] at I5 hgb
  have hgw : w.heap.size ≤ g := by omega
  have B5 := hide (below_grown B4.out hG5 hgw B4.out.size)
  have R5 := hide (R4.out.grown hG5 (fun e => by injection e with e; omega))
  have RR5 := hide (RR4.out.grown hG5 (fun e => by injection e with e; omega))
  have G5 := hide ((G4.out.grown hG5 hgl (Nat.le_refl _)).more hG5.size (Nat.le_refl _))
  have C5 := hide hC5
  clear hil hin hiA hio hiv hC5 hG5 C4 B4 R4 RR4 G4 hib hP4
  go_wp2_with fail
  refine (next_any g 256 w5 C5 (by omega) (by omega)).mono ?_
  rintro e w6 ⟨a, rfl, a0, a1, hC, hG, -⟩
  have B6 := hide (below_grown B5.out hG hgw B5.out.size)
  have R6 := hide (R5.out.grown hG (fun e => by injection e with e; omega))
  have RR6 := hide (RR5.out.grown hG (fun e => by injection e with e; omega))
  have G6 := hide ((G5.out.grown hG hgl (Nat.le_refl _)).more hG.size (Nat.le_refl _))
  have C6 := hide hC
  have I6 := hide (I5.out.kept hG (own_off I5.out hgb))
  clear hC hG C5 B5 R5 RR5 G5 I5
  go_wp2_with fail
  refine (next_any g 80 w6 C6 (by omega) (by omega)).mono ?_
  rintro e w7 ⟨b, rfl, b0, b1, hC, hG, -⟩
  have B7 := hide (below_grown B6.out hG hgw B6.out.size)
  have R7 := hide (R6.out.grown hG (fun e => by injection e with e; omega))
  have RR7 := hide (RR6.out.grown hG (fun e => by injection e with e; omega))
  have G7 := hide ((G6.out.grown hG hgl (Nat.le_refl _)).more hG.size (Nat.le_refl _))
  have C7 := hide hC
  have I7 := hide (I6.out.kept hG (own_off I6.out hgb))
  clear hC hG C6 B6 R6 RR6 G6 I6
  have hw1 : IntKind.i64.wrap (16 * b) = 16 * b := by rw [IntKind.wrap_i64]; omega
  go_wp2_with fail
  refine (next_any g 4 w7 C7 (by omega) (by omega)).mono ?_
  rintro e w8 ⟨q, rfl, q0, q1, hC, hG, -⟩
  have B8 := hide (below_grown B7.out hG hgw B7.out.size)
  have R8 := hide (R7.out.grown hG (fun e => by injection e with e; omega))
  have RR8 := hide (RR7.out.grown hG (fun e => by injection e with e; omega))
  have G8 := hide ((G7.out.grown hG hgl (Nat.le_refl _)).more hG.size (Nat.le_refl _))
  have C8 := hide hC
  have I8 := hide (I7.out.kept hG (own_off I7.out hgb))
  clear hC hG C7 B7 R7 RR7 G7 I7
  obtain ⟨fuel, rfl⟩ : ∃ k : Nat, a = (k : Int) := ⟨a.toNat, by omega⟩
  have f0 := RR8.out.free 0
  have f1 := RR8.out.free 1
  by_cases hq : q = 3
  · subst hq
    go_wp2_with fail
    refine (next_any g 16 w8 C8 (by omega) (by omega)).mono ?_
    rintro e w9 ⟨d, rfl, d0, d1, hC, hG, -⟩
    have B9 := hide (below_grown B8.out hG hgw B8.out.size)
    have R9 := hide (R8.out.grown hG (fun e => by injection e with e; omega))
    have RR9 := hide (RR8.out.grown hG (fun e => by injection e with e; omega))
    have G9 := hide ((G8.out.grown hG hgl (Nat.le_refl _)).more hG.size (Nat.le_refl _))
    have C9 := hide hC
    have I9 := hide (I8.out.kept hG (own_off I8.out hgb))
    clear hC hG C8 B8 R8 RR8 G8 I8 f0 f1
    have f0 := RR9.out.free 0
    have f1 := RR9.out.free 1
    have t0 := R9.out.cell (k := 0) rfl
    have t1 := R9.out.cell (k := 1) rfl
    have s0 := RR9.out.cell (k := 0) rfl
    have s1 := RR9.out.cell (k := 1) rfl
    have hw2 : IntKind.i64.wrap (16 * b + d) = 16 * b + d := by rw [IntKind.wrap_i64]; omega
    go_wp2_with fail
    obtain ⟨V, hV, RV, GV, IV, CV, BV, hVs⟩ := sc_end (al := al) RR9.out G9.out I9.out HIL.out C9.out B9.out hwg hgl hgb
    rw [hV]
    have k0 := RV.cell (k := 0) rfl
    have k1 := RV.cell (k := 1) rfl
    obtain ⟨size, hsz⟩ : ∃ k : Nat, 16 * b + d = (k : Int) := ⟨(16 * b + d).toNat, by omega⟩
    rw [hsz]
    refine bodyPost_ret (v := .tuple #[tv al A n c, .slice Ai ni ci, .int .i64 (fuel : Int), .int .i64 (size : Int), .pointer (some ⟨g, 0, none⟩)]) (by simp [results, Tryz.results7, go_sem, k0, k1, tv]) rfl ?_
    have hlV := R9.out.lt
    exact ⟨al, A, n, c, hh, G, Ai, ni, ci, inp, fuel, size, g, lo, rfl, GV, HE3.out, HI3.out, HL3.out, hn1, hn2, IV, HIV.out, by omega, by omega, hgl, by have := CV.lt; omega, by omega, CV, BV⟩
  · have t0 := R8.out.cell (k := 0) rfl
    have t1 := R8.out.cell (k := 1) rfl
    have s0 := RR8.out.cell (k := 0) rfl
    have s1 := RR8.out.cell (k := 1) rfl
    go_wp2_with fail
    obtain ⟨V, hV, RV, GV, IV, CV, BV, hVs⟩ := sc_end (al := al) RR8.out G8.out I8.out HIL.out C8.out B8.out hwg hgl hgb
    rw [hV]
    have k0 := RV.cell (k := 0) rfl
    have k1 := RV.cell (k := 1) rfl
    obtain ⟨size, hsz⟩ : ∃ k : Nat, 16 * b = (k : Int) := ⟨(16 * b).toNat, by omega⟩
    rw [hsz]
    refine bodyPost_ret (v := .tuple #[tv al A n c, .slice Ai ni ci, .int .i64 (fuel : Int), .int .i64 (size : Int), .pointer (some ⟨g, 0, none⟩)]) (by simp [results, Tryz.results7, go_sem, k0, k1, tv]) rfl ?_
    have hlV := R8.out.lt
    exact ⟨al, A, n, c, hh, G, Ai, ni, ci, inp, fuel, size, g, lo, rfl, GV, HE3.out, HI3.out, HL3.out, hn1, hn2, IV, HIV.out, by omega, by omega, hgl, by have := CV.lt; omega, by omega, CV, BV⟩
end Go.Proofs.YtafegghdhdgioabGreat
end

section
/-
  Every value of a target's run's trace, and its result, are numbers of 128 bits. Nothing here names the program.
-/
namespace Go.Proofs.YtafegghdhdgioabGreat
open Go.RowKit

/-- The output and the result are numbers of 128 bits. -/
structure ValsC (c : Co) : Prop where
  t : ∀ v ∈ c.trace, v < two128
  r : c.res < two128
theorem ValsC.of {c d : Co} (h : ValsC c) (h1 : d.trace = c.trace) (h2 : d.res = c.res) : ValsC d := ⟨by rw [h1]; exact h.t, by rw [h2]; exact h.r⟩
theorem ValsC.setR {c : Co} (h : ValsC c) (i : Int) (v : Nat) : ValsC (c.setR i v) := by
  obtain ⟨_, _, _, e4, e5, _, _⟩ := c.setR_keeps i v
  exact h.of e5 e4
theorem execC_vals {c : Co} (hs : SmallC c) (h : ValsC c) (x : Ins) : ValsC (c.execC x) := by
  unfold Co.execC
  split
  · exact h.setR _ _
  · split
    · exact h.setR _ _
    · split
      · exact h.setR _ _
      · split
        · exact h.setR _ _
        · split
          · exact (show ValsC { c with inp := c.inp.tail } from ⟨h.t, h.r⟩).setR _ _
          · split
            · refine ⟨fun v hm => ?_, h.r⟩
              rcases List.mem_append.1 (show v ∈ c.trace ++ [c.reg x.a] from hm) with hm | hm
              · exact h.t v hm
              · rw [List.mem_singleton.1 hm]; exact hs.reg _
            · split
              · exact h
              · split
                · exact h.of rfl rfl
                · unfold Co.applyC
                  split
                  · exact h.setR _ _
                  · exact h.of rfl rfl
theorem step_valsT {F : Tg} {T0 : Nat} {s : Tm} (h : VT F T0 s) (hv : ValsC s.c) : ValsC (s.step F T0).c := by
  have hsm : SmallC (s.fetched (s.cur F)).c := ⟨h.sm.r8, h.sm.rv, h.sm.iv⟩
  have hf : ValsC (s.fetched (s.cur F)).c := hv.of rfl rfl
  unfold Tm.step Tm.exec
  generalize s.cur F = x at hsm hf
  generalize s.fetched x = u at hsm hf
  split
  · unfold Tm.access
    split
    · split
      · exact (hf.setR _ _).of rfl rfl
      · split
        · exact (hf.setR _ _).of rfl rfl
        · exact hf.setR _ _
    · split
      · split
        · exact hf.of rfl rfl
        · exact hf
      · split
        · exact hf.of rfl rfl
        · split
          · exact hf.of rfl rfl
          · exact hf
  · split
    · unfold Tm.enter
      split
      · exact hf.of rfl rfl
      · exact hf
    · split
      · unfold Tm.leave
        dsimp only
        split
        · exact ⟨hf.t, hsm.reg 0⟩
        · exact hf
      · exact execC_vals hsm hf x
theorem iter_valsT {Al : Int} {F : Tg} {T0 : Nat} (hR : RightT Al F) (him : ImmT F) : ∀ (k : Nat) (s : Tm), JT F T0 s → ValsC s.c → ValsC (iterT F T0 k s).c
  | 0, _, _, hv => hv
  | k + 1, s, h, hv => by
    rw [iterT]
    by_cases he : s.c.ended = true
    · rw [if_pos he]; exact hv
    · rw [if_neg he]
      rcases h with h | h
      · exact absurd h.1 he
      · exact iter_valsT hR him k _ (vt_step hR him h.2 h.1) (step_valsT h.2 hv)
theorem run_valsT {Al : Int} {F : Tg} (hR : RightT Al F) (him : ImmT F) {inp : List Nat} (hi : ∀ v ∈ inp, v < 18446744073709551616) {size : Nat} (hs : size ≤ 1048576) (A n : Nat) : ValsC (runT A F inp n size).c := by
  have hz : ValsC (coreZ inp) := ⟨(fun v hm => by cases hm), show (0 : Nat) < two128 by decide⟩
  by_cases h0 : n = 0
  · subst h0
    exact hz.of rfl rfl
  · rw [runT_pos h0]
    have h1 : ValsC (startT A F inp size).c := by
      unfold startT Tm.enter
      split
      · exact hz.of rfl rfl
      · exact hz
    have h := iter_valsT hR him n _ (vt_start hR hi hs (A := A)) h1
    unfold Tm.fuelled
    split
    · exact h
    · exact h.of rfl rfl
end Go.Proofs.YtafegghdhdgioabGreat
end

section
/-
  What Run gives at a right target, with fuel and size in their bounds.
-/
namespace Go.Proofs.YtafegghdhdgioabGreat
open Go.RowKit

/-- What Run gives at a right target, a fuel and a size in their bounds. -/
theorem runTE_ok {Al : Int} {F : Tg} (hE : tgE Al F = 0) {fuel size : Nat} (hf : fuel ≤ 100000) (hs : size ≤ 1048576) : runTE Al F (fuel : Int) (size : Int) = 0 := by
  unfold runTE
  rw [if_neg (by rw [hE]; simp), if_pos ⟨⟨by omega, by omega⟩, by omega, by omega⟩]
theorem runTS_ok {Al : Int} {F : Tg} (hE : tgE Al F = 0) (inp : List Nat) {fuel size : Nat} (hf : fuel ≤ 100000) (hs : size ≤ 1048576) : runTS Al F inp (fuel : Int) (size : Int) = runT Al.toNat F inp fuel size := by
  unfold runTS
  rw [if_pos (runTE_ok hE hf hs), Int.toNat_natCast, Int.toNat_natCast]
end Go.Proofs.YtafegghdhdgioabGreat
end
