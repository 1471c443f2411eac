import Derived.Test.YtafegghdhdgioabMMtgm
import Derived.Test.YtafegghdhdgioabMMfch
import Derived.Test.YtafegghdhdgioabMJdt
import Derived.Test.YtafegghdhdgioabMDcw
import Derived.Test.YtafegghdhdgioabMEmath
import Derived.Test.YtafegghdhdgioabMNcc
import Derived.Maps.Range
set_option linter.unusedVariables false
set_option linter.unusedSimpArgs false
section
/-
  What a target without error keeps: its frames' bounds, that each instruction reads and writes where it may, that each caller has room. No function of the program is named here.
-/
namespace Go.Proofs.Ytafegghdhdgioab
open Go.RowKit

theorem tgE_ok {Al : Int} {F : Tg} (h : tgE Al F = 0) : firstE (F.map (fmE Al F.length)) = 0 ∧ F.all (roomB F) = true := by
  unfold tgE at h
  by_cases h1 : 80 < F.length
  · rw [if_pos h1] at h; omega
  · rw [if_neg h1] at h
    cases F with
    | nil => simp at h
    | cons f r =>
      simp only at h
      by_cases h2 : powB Al = false ∨ Al < 16
      · rw [if_pos h2] at h; omega
      · rw [if_neg h2] at h
        by_cases h3 : f.params ≠ 0
        · rw [if_pos h3] at h; omega
        · rw [if_neg h3] at h
          by_cases h4 : firstE ((f :: r).map (fmE Al (f :: r).length)) ≠ 0
          · rw [if_pos h4] at h; exact absurd h h4
          · rw [if_neg h4] at h
            refine ⟨Decidable.not_not.1 h4, ?_⟩
            by_cases h5 : (f :: r).all (roomB (f :: r)) = true
            · exact h5
            · rw [if_neg h5] at h; omega
theorem mins_cov {N : Nat} {f : Fm} {x : Ins} (h : minsE N f x = 0) : covB f.params f.size x = true := by
  unfold minsE at h
  by_cases he : exB x.op = false
  · rw [if_pos he] at h; omega
  · rw [if_neg he] at h
    unfold mrank at h
    cases hc : covB f.params f.size x with
    | true => rfl
    | false =>
      exfalso
      rw [hc] at h
      revert h
      (repeat' split) <;> simp_all
/-- What one instruction keeps: what it reads and writes lies where it may. -/
structure InsOk (F : Tg) (f : Fm) (x : Ins) : Prop where
  r : rdB x.op = true → 0 ≤ x.b ∧ 0 ≤ x.c ∧ x.b + x.c ≤ 2147483647 ∧ x.b + x.c ≤ f.size + 16 * f.params
  w : wrB x.op = true → 0 ≤ x.a ∧ 0 ≤ x.c ∧ x.a + x.c ≤ 2147483647 ∧ x.a + x.c ≤ f.size
  c : x.op = 22 → 0 ≤ x.a ∧ x.a < (F.length : Int) ∧ callB F f x = true
theorem tgE_ins {Al : Int} {F : Tg} (h : tgE Al F = 0) : ∀ f ∈ F, ((0 ≤ f.params ∧ f.params ≤ 8) ∧ (0 ≤ f.size ∧ f.size ≤ 2147483519)) ∧ ∀ x ∈ f.code, InsOk F f x := by
  obtain ⟨h1, h2⟩ := tgE_ok h
  intro f hf
  have hz := fmE_zero (firstE_zero.1 h1 _ (List.mem_map.2 ⟨f, hf, rfl⟩))
  have hs := hz.1
  unfold shB at hs
  simp only [Bool.and_eq_true] at hs
  have b1 := withB_true.1 hs.2.1
  have b2 := withB_true.1 hs.2.2.1
  refine ⟨by omega, fun x hx => ?_⟩
  have hm := hz.2.2.1 x hx
  have hc := mins_cov hm
  unfold covB at hc
  rw [Bool.and_eq_true] at hc
  obtain ⟨c1, c2⟩ := hc
  unfold insB at c1 c2
  rw [Bool.and_eq_true, rightB_iff, decide_eq_true_eq] at c1 c2
  refine ⟨fun hr => ?_, fun hw => ?_, fun h22 => ?_⟩
  · unfold rdI at c1
    rw [hr] at c1
    simp at c1
    omega
  · unfold wrI at c2
    rw [hw] at c2
    simp at c2
    omega
  · have ha := mins_call hm h22
    have hr := List.all_eq_true.1 h2 f hf
    unfold roomB at hr
    exact ⟨ha.1, ha.2, List.all_eq_true.1 hr x hx⟩
end Go.Proofs.Ytafegghdhdgioab
end

section
/-
  A drawn program, lowered with its plain layouts and with some stores' offsets drawn anew, is a right target that can be written. No function of the program is named here.
-/
namespace Go.Proofs.Ytafegghdhdgioab
open Go.RowKit

theorem g25 {op : Int} (h0 : 0 ≤ op) (h1 : op < 25) : op = 0 ∨ op = 1 ∨ op = 2 ∨ op = 3 ∨ op = 4 ∨ op = 5 ∨ op = 6 ∨ op = 7 ∨ op = 8 ∨ op = 9 ∨ op = 10 ∨ op = 11 ∨ op = 12 ∨ op = 13 ∨ op = 14 ∨ op = 15 ∨ op = 16 ∨ op = 17 ∨ op = 18 ∨ op = 19 ∨ op = 20 ∨ op = 21 ∨ op = 22 ∨ op = 23 ∨ op = 24 := by omega
theorem mop0 {N C n : Int} (h : withB n 1 = true) : mopE N C 0 n = 0 := by
  have := withB_true.1 h
  unfold mopE
  rw [if_pos rfl, if_pos (by omega)]
theorem mop1 {N C n : Int} (h : withB n 8 = true) : mopE N C 1 n = 0 := by unfold mopE; rw [if_neg (by decide), if_pos rfl, if_pos h]
theorem mop2 {N C n : Int} : mopE N C 2 n = 0 := by unfold mopE; rw [if_neg (by decide), if_neg (by decide), if_neg (by decide), if_neg (by decide), if_neg (by decide)]
theorem mop3 {N C n : Int} (h : szB n = true) : mopE N C 3 n = 0 := by unfold mopE; rw [if_neg (by decide), if_neg (by decide), if_neg (by decide), if_pos rfl, if_pos h]
theorem mop4 {N C n : Int} (h : withB n N = true) : mopE N C 4 n = 0 := by unfold mopE; rw [if_neg (by decide), if_neg (by decide), if_pos rfl, if_pos h]
theorem mop5 {N C n : Int} (h : withB n C = true) : mopE N C 5 n = 0 := by unfold mopE; rw [if_neg (by decide), if_neg (by decide), if_neg (by decide), if_neg (by decide), if_pos rfl, if_pos h]
/-- An instruction of a frame without an error. -/
structure GI (N C : Int) (P S : Int) (x : Ins) : Prop where
  ex : exB x.op = true
  a : mopE N C (mshpOf x.op).1 x.a = 0
  b : mopE N C (mshpOf x.op).2.1 x.b = 0
  c : mopE N C (mshpOf x.op).2.2.1 x.c = 0
  m : (mshpOf x.op).2.2.2 = true ∨ x.imm = 0
  cov : covB P S x = true
theorem GI.zero {N : Nat} {f : Fm} {x : Ins} (h : GI N f.code.length f.params f.size x) : minsE N f x = 0 := by
  unfold minsE
  rw [if_neg (by rw [h.ex]; decide), h.cov]
  have e : mfound N f.code.length x = [0, 0, 0] := by
    unfold mfound foundE
    rw [h.a, h.b, h.c, if_neg (by
      rintro ⟨h1, h2⟩
      rcases h.m with e | e
      · rw [e] at h1; cases h1
      · exact h2 e)]
    rfl
  rw [e]
  decide
theorem insB_of {o s n : Int} (h0 : 0 ≤ o) (h1 : 0 ≤ s) (h2 : o + s ≤ 2147483647) (h3 : o + s ≤ n) : insB o s n = true := by
  unfold insB
  rw [Bool.and_eq_true, rightB_iff, decide_eq_true_eq]
  exact ⟨⟨h0, h1, h2⟩, h3⟩
theorem cov_none {P S : Int} {x : Ins} (hr : rdB x.op = false) (hw : wrB x.op = false) (hP : 0 ≤ P) (hS : 0 ≤ S) : covB P S x = true := by
  unfold covB rdI wrI
  rw [hr, hw]
  simp only [Bool.false_eq_true, if_false]
  rw [insB_of (by omega) (by omega) (by omega) (by omega), insB_of (by omega) (by omega) (by omega) (by omega)]
  rfl
theorem cov_rd {P S : Int} {x : Ins} (hr : rdB x.op = true) (hw : wrB x.op = false) (hS : 0 ≤ S) (h0 : 0 ≤ x.b) (h1 : 0 ≤ x.c) (h2 : x.b + x.c ≤ 2147483647) (h3 : x.b + x.c ≤ S + 16 * P) : covB P S x = true := by
  unfold covB rdI wrI
  rw [hr, hw]
  simp only [Bool.false_eq_true, if_false, if_true]
  rw [insB_of h0 h1 h2 h3, insB_of (by omega) (by omega) (by omega) (by omega)]
  rfl
theorem cov_wr {P S : Int} {x : Ins} (hr : rdB x.op = false) (hw : wrB x.op = true) (hP : 0 ≤ P) (hS : 0 ≤ S) (h0 : 0 ≤ x.a) (h1 : 0 ≤ x.c) (h2 : x.a + x.c ≤ 2147483647) (h3 : x.a + x.c ≤ S) : covB P S x = true := by
  unfold covB rdI wrI
  rw [hr, hw]
  simp only [Bool.false_eq_true, if_false, if_true]
  rw [insB_of (by omega) (by omega) (by omega) (by omega), insB_of h0 h1 h2 h3]
  rfl
theorem argI_ge (F : Pg) (n : Int) (x : Ins) : n ≤ argI F n x := by
  unfold argI
  (repeat' split) <;> omega
theorem argN_ge {F : Pg} {l : List Ins} : ∀ k, k ≤ l.length → ∀ (j : Nat) (hl : j < l.length), j < k → (l[j].op = 18 → l[j].a + 1 ≤ argN F (l.take k)) ∧ (l[j].op = 22 → ((F[l[j].a.toNat]?).map Fn.params).getD 0 ≤ argN F (l.take k)) := by
  intro k
  induction k with
  | zero => intro _ j _ hj; omega
  | succ k ih =>
    intro hk j hl hj
    rw [argN_snoc F l k (by omega)]
    by_cases hjk : j < k
    · have h := ih (by omega) j hl hjk
      have hg := argI_ge F (argN F (l.take k)) l[k]
      exact ⟨fun e => Int.le_trans (h.1 e) hg, fun e => Int.le_trans (h.2 e) hg⟩
    · obtain rfl : j = k := by omega
      refine ⟨fun e => ?_, fun e => ?_⟩
      · rw [argI_arg e]; omega
      · unfold argI
        rw [if_neg (by omega), if_pos e]
        omega
/-- Where each slot lies. -/
theorem offs {a : Int} {l : List (Int × Int)} (ha : 0 ≤ a ∧ a ≤ 128) (hs : ∀ u ∈ l, slotB u.1 u.2 = true) : ∀ k, k ≤ l.length → ∀ (j : Nat) (hl : j < l.length), j < k → ∃ o, (basF a (l.take k)).1[j]? = some o ∧ a ≤ o ∧ o + l[j].1 ≤ (basF a (l.take k)).2 := by
  intro k
  induction k with
  | zero => intro _ j _ hj; omega
  | succ k ih =>
    intro hk j hl hj
    have hlen := basF_len a l k (by omega)
    have hb := basF_b ha hs k (by omega)
    rw [basF_snoc a l k (by omega)]
    have hsl := hs _ (List.getElem_mem (show k < l.length by omega))
    unfold slotB at hsl
    rw [Bool.and_eq_true] at hsl
    have h1 := szB_b hsl.1
    have h2 := powB_b hsl.2
    have hu := upM_b (basF a (l.take k)).2 (show 0 < l[k].2 by omega)
    unfold basI
    simp only
    by_cases hjk : j < k
    · obtain ⟨o, e1, e2, e3⟩ := ih (by omega) j hl hjk
      exact ⟨o, by rw [List.getElem?_append_left (by omega)]; exact e1, e2, by omega⟩
    · obtain rfl : j = k := by omega
      refine ⟨upM (basF a (l.take j)).2 l[j].2, by rw [List.getElem?_append_right (by omega), hlen, Nat.sub_self]; rfl, by omega, by omega⟩
theorem term_low (os : List Int) (sl : List (Int × Int)) (S : Int) (x : Ins) : termB (lowX os sl S x).op = termB x.op := by
  unfold lowX
  (repeat' split) <;> rename_i h <;> simp_all [termB]
theorem low_gi {F : Pg} {f : Fn} {al : Int} (hF : LowPg2 F) (hf : f ∈ F) (hfn : fnE F.length f = 0) (hal : powB al = true) {x : Ins} (hx : x ∈ f.code) :
    GI F.length (f.code.length : Nat) f.params (lowF F al f).size (lowX (basF (argN F f.code * 16) f.slots).1 f.slots (lowF F al f).size x) := by
  obtain ⟨hc, hsl0, hp, hins, _⟩ := fnE_zero.1 hfn
  obtain ⟨ho, e1, e2, e3, hm, hmv⟩ := insE_zero.1 (hins x hx)
  rw [opndE_zero] at e1 e2 e3
  have hsl := hF.pg.slot f hf
  have hab := argN_b (hF.pg.arg f hf) f.code.length
  rw [List.take_of_length_le (Nat.le_refl _)] at hab
  have hS := low_size (hF.pg.arg f hf) hsl (hF.pg.six f hf) hal
  have hoff := offs (a := argN F f.code * 16) (by omega) hsl f.slots.length (Nat.le_refl _)
  rw [List.take_of_length_le (Nat.le_refl _)] at hoff
  have hbb := basF_b (a := argN F f.code * 16) (by omega) hsl f.slots.length (Nat.le_refl _)
  rw [List.take_of_length_le (Nat.le_refl _)] at hbb
  have hal0 := powB_b hal
  have hup := upM_b (basF (argN F f.code * 16) f.slots).2 (show 0 < al by omega)
  have hSd : (lowF F al f).size = upM (basF (argN F f.code * 16) f.slots).2 al := rfl
  obtain ⟨S, hSe⟩ : ∃ S, (lowF F al f).size = S := ⟨_, rfl⟩
  rw [hSe] at hS hSd ⊢
  have hslot : ∀ k : Int, 0 ≤ k → k < f.slots.length → ∃ o, (basF (argN F f.code * 16) f.slots).1.getD k.toNat 0 = o ∧ 0 ≤ o ∧ o + sizeAt f.slots k ≤ S ∧ szB (sizeAt f.slots k) = true := fun k h0 h1 => by
    obtain ⟨j, rfl⟩ := Int.eq_ofNat_of_zero_le h0
    have hj : j < f.slots.length := by omega
    obtain ⟨o, q1, q2, q3⟩ := hoff j hj hj
    have hz := hsl _ (List.getElem_mem hj)
    unfold slotB at hz
    rw [Bool.and_eq_true] at hz
    rw [sz_at hj]
    exact ⟨o, by rw [Int.toNat_natCast, List.getD_eq_getElem?_getD, q1]; rfl, by omega, by omega, hz.1⟩
  have harg : x.op = 18 → 16 * x.a + 16 ≤ S := fun h18 => by
    obtain ⟨j, hj, rfl⟩ := List.mem_iff_getElem.1 hx
    have h := (argN_ge (F := F) f.code.length (Nat.le_refl _) j hj hj).1 h18
    rw [List.take_of_length_le (Nat.le_refl _)] at h
    omega
  clear hoff hbb hup hSd hx hins
  obtain ⟨os, hos⟩ : ∃ os, (basF (argN F f.code * 16) f.slots).1 = os := ⟨_, rfl⟩
  rw [hos] at hslot ⊢
  clear hos
  obtain ⟨o, a, b, c, m⟩ := x
  simp only at ho e1 e2 e3 hm hmv harg
  rcases g25 ho.1 ho.2 with rfl | rfl | rfl | rfl | rfl | rfl | rfl | rfl | rfl | rfl | rfl | rfl | rfl | rfl | rfl | rfl | rfl | rfl | rfl | rfl | rfl | rfl | rfl | rfl | rfl
  case inr.inr.inr.inr.inr.inr.inr.inr.inr.inr.inr.inr.inr.inr.inr.inl =>
    obtain ⟨z, z1, z2, z3, z4⟩ := hslot b (withB_true.1 e2).1 (withB_true.1 e2).2
    have hb := szB_b z4
    rw [show lowX os f.slots S ⟨15, a, b, c, m⟩ = ⟨15, a, z, sizeAt f.slots b, 0⟩ from by rw [← z1]; rfl]
    exact ⟨rfl, mop1 e1, mop2, mop3 z4, .inr rfl, cov_rd rfl rfl hS.1 z2 (by simp only; omega) (by simp only; omega) (by simp only; omega)⟩
  case inr.inr.inr.inr.inr.inr.inr.inr.inr.inr.inr.inr.inr.inr.inr.inr.inl =>
    obtain ⟨z, z1, z2, z3, z4⟩ := hslot a (withB_true.1 e1).1 (withB_true.1 e1).2
    have hb := szB_b z4
    rw [show lowX os f.slots S ⟨16, a, b, c, m⟩ = ⟨16, z, b, sizeAt f.slots a, 0⟩ from by rw [← z1]; rfl]
    exact ⟨rfl, mop2, mop1 e2, mop3 z4, .inr rfl, cov_wr rfl rfl hp.1 hS.1 z2 (by simp only; omega) (by simp only; omega) (by simp only; omega)⟩
  case inr.inr.inr.inr.inr.inr.inr.inr.inr.inr.inr.inr.inr.inr.inr.inr.inr.inl =>
    obtain ⟨z, z1, z2, z3, z4⟩ := hslot a (withB_true.1 e1).1 (withB_true.1 e1).2
    obtain ⟨y, y1, y2, y3, y4⟩ := hslot b (withB_true.1 e2).1 (withB_true.1 e2).2
    have hb := szB_b z4
    have heq : sizeAt f.slots a = sizeAt f.slots b := by
      unfold moveBad at hmv
      simpa using hmv
    rw [show lowX os f.slots S ⟨17, a, b, c, m⟩ = ⟨17, z, y, sizeAt f.slots a, 0⟩ from by rw [← z1, ← y1]; rfl]
    refine ⟨rfl, mop2, mop2, mop3 z4, .inr rfl, ?_⟩
    unfold covB rdI wrI
    rw [show rdB 17 = true from rfl, show wrB 17 = true from rfl]
    simp only [if_true]
    rw [insB_of y2 (by omega) (by omega) (by omega), insB_of z2 (by omega) (by omega) (by omega)]
    rfl
  case inr.inr.inr.inr.inr.inr.inr.inr.inr.inr.inr.inr.inr.inr.inr.inr.inr.inr.inl =>
    have h1 := withB_true.1 (show withB a 8 = true from e1)
    have h2 := harg rfl
    rw [show lowX os f.slots S ⟨18, a, b, c, m⟩ = ⟨16, 16 * a, b, 16, 0⟩ from rfl]
    exact ⟨rfl, mop2, mop1 e2, mop3 (show szB 16 = true by decide), .inr rfl, cov_wr rfl rfl hp.1 hS.1 (by simp only; omega) (by simp only; omega) (by simp only; omega) (by simp only; omega)⟩
  case inr.inr.inr.inr.inr.inr.inr.inr.inr.inr.inr.inr.inr.inr.inr.inr.inr.inr.inr.inl =>
    have h1 := withB_true.1 (show withB b f.params = true from e2)
    rw [show lowX os f.slots S ⟨19, a, b, c, m⟩ = ⟨15, a, S + 16 * b, 16, 0⟩ from rfl]
    exact ⟨rfl, mop1 e1, mop2, mop3 (show szB 16 = true by decide), .inr rfl, cov_rd rfl rfl hS.1 (by simp only; omega) (by simp only; omega) (by simp only; omega) (by simp only; omega)⟩
  all_goals
    refine ⟨rfl, ?_, ?_, ?_, hm, cov_none rfl rfl hp.1 hS.1⟩
    · first | exact mop0 e1 | exact mop1 e1 | exact mop4 e1 | exact mop5 e1
    · first | exact mop0 e2 | exact mop1 e2 | exact mop4 e2 | exact mop5 e2
    · first | exact mop0 e3 | exact mop1 e3 | exact mop4 e3 | exact mop5 e3
theorem closed_ops {l l' : List Ins} (h : l'.map (fun x => termB x.op) = l.map (fun x => termB x.op)) : closedB l' = closedB l := by
  have e : ∀ m : List Ins, closedB m = ((m.map (fun x => termB x.op)).getLast?).getD false := fun m => by
    unfold closedB
    rw [List.getLast?_map]
    cases m.getLast? <;> rfl
  rw [e, e, h]
/-- A frame of the drawn target. -/
structure FG (N : Nat) (al : Int) (ps : List Int) (q : Fm) : Prop where
  p : 0 ≤ q.params ∧ q.params ≤ 8
  s : 0 ≤ q.size ∧ q.size ≤ 268435456
  d : q.size % al = 0
  n : q.code.length ≤ 1024
  g : ∀ x ∈ q.code, GI N (q.code.length : Nat) q.params q.size x
  cl : closedB q.code = true
  call : ∀ x ∈ q.code, x.op = 22 → 16 * ((ps[x.a.toNat]?).getD 0) ≤ q.size
  imm : ∀ x ∈ q.code, 0 ≤ x.imm ∧ x.imm ≤ 18446744073709551615
theorem fm_zero {N : Nat} {al : Int} {ps : List Int} {q : Fm} (h : FG N al ps q) (hal : powB al = true) : fmE al N q = 0 := by
  have hs : shB al q = true := by
    unfold shB
    have h1 := h.p
    have h2 := h.s
    rw [hal, withB_true.2 (show 0 ≤ q.params ∧ q.params < 9 by omega), withB_true.2 (show 0 ≤ q.size ∧ q.size < 2147483520 by omega), decide_eq_true h.d]
    rfl
  have hf : firstE (q.code.map (minsE N q)) = 0 := firstE_zero.2 fun e he => by
    obtain ⟨x, hx, rfl⟩ := List.mem_map.1 he
    exact (h.g x hx).zero
  have hn := h.n
  unfold fmE
  rw [if_neg (by rw [hs]; decide), if_neg (by omega), if_neg (by rw [hf]; decide), if_neg (by rw [h.cl]; decide)]
theorem low_fg {F : Pg} {funcs most i : Nat} (h : PgGood funcs most F) (hf2 : funcs ≤ 80) (hm : most ≤ 100) {al : Int} (hal : powB al = true) {f : Fn} (hf : F[i]? = some f) : FG F.length al (F.map Fn.params) (lowF F al f) := by
  have hl := good_low h hf2 hm
  have hfm := List.mem_of_getElem? hf
  have hfn := (pgE_zero.1 h.err).2.2 f hfm
  obtain ⟨hc, hsl0, hp, hins, hcl⟩ := fnE_zero.1 hfn
  have hgd := (h.fn i f hf).1
  have hal0 := powB_b hal
  have hlen : (lowF F al f).code.length = f.code.length := by unfold lowF; simp
  have hS := low_size (hl.pg.arg f hfm) (hl.pg.slot f hfm) (hl.pg.six f hfm) hal
  refine ⟨hp, hS, Int.emod_eq_zero_of_dvd (upM_dvd _ _), by rw [hlen]; exact hc, fun y hy => ?_, ?_, fun y hy h22 => ?_, fun y hy => ?_⟩
  · obtain ⟨x, hx, rfl⟩ := List.mem_map.1 (show y ∈ f.code.map _ from hy)
    rw [hlen]
    exact low_gi hl hfm hfn hal hx
  · rw [← hcl]
    refine closed_ops ?_
    show (f.code.map _).map _ = _
    rw [List.map_map]
    exact List.map_congr_left fun x _ => term_low _ _ _ x
  · obtain ⟨x, hx, rfl⟩ := List.mem_map.1 (show y ∈ f.code.map _ from hy)
    have hx22 : x.op = 22 := by
      unfold lowX at h22
      by_cases a1 : x.op = 15
      · rw [if_pos a1] at h22; simp at h22
      · rw [if_neg a1] at h22
        by_cases a2 : x.op = 16
        · rw [if_pos a2] at h22; simp at h22
        · rw [if_neg a2] at h22
          by_cases a3 : x.op = 17
          · rw [if_pos a3] at h22; simp at h22
          · rw [if_neg a3] at h22
            by_cases a4 : x.op = 18
            · rw [if_pos a4] at h22; simp at h22
            · rw [if_neg a4] at h22
              by_cases a5 : x.op = 19
              · rw [if_pos a5] at h22; simp at h22
              · rw [if_neg a5] at h22; exact h22
    have hxe : lowX (basF (argN F f.code * 16) f.slots).1 f.slots (upM (basF (argN F f.code * 16) f.slots).2 al) x = x := by
      unfold lowX
      rw [if_neg (by omega), if_neg (by omega), if_neg (by omega), if_neg (by omega), if_neg (by omega)]
    rw [hxe]
    obtain ⟨j, hj, rfl⟩ := List.mem_iff_getElem.1 hx
    have hg := (argN_ge (F := F) f.code.length (Nat.le_refl _) j hj hj).2 hx22
    rw [List.take_of_length_le (Nat.le_refl _)] at hg
    have hab := argN_b (hl.pg.arg f hfm) f.code.length
    rw [List.take_of_length_le (Nat.le_refl _)] at hab
    have hbb := basF_b (a := argN F f.code * 16) (by omega) (hl.pg.slot f hfm) f.slots.length (Nat.le_refl _)
    rw [List.take_of_length_le (Nat.le_refl _)] at hbb
    have hup := upM_b (basF (argN F f.code * 16) f.slots).2 (show 0 < al by omega)
    have hSd : (lowF F al f).size = upM (basF (argN F f.code * 16) f.slots).2 al := rfl
    rw [List.getElem?_map]
    omega
  · obtain ⟨x, hx, rfl⟩ := List.mem_map.1 (show y ∈ f.code.map _ from hy)
    have hi := hgd.imm x hx
    unfold immI at hi
    unfold lowX
    (repeat' split) <;> first | exact hi | exact ⟨by decide, by decide⟩ | (simp only; omega)
theorem var_fg {N : Nat} {al : Int} {ps : List Int} {f q : Fm} (h : FG N al ps f) (hp : q.params = f.params) (hs : q.size = f.size) (hc : CdVar f.size f.code q.code) : FG N al ps q := by
  have hlen := hc.1
  have hx : ∀ y ∈ q.code, ∃ x ∈ f.code, (y = x ∨ (x.op = 16 ∧ ∃ t : Int, 0 ≤ t ∧ t + x.c ≤ f.size ∧ y = ⟨16, t, x.b, x.c, x.imm⟩)) := fun y hy => by
    obtain ⟨j, hj, rfl⟩ := List.mem_iff_getElem.1 hy
    have hjl : j < f.code.length := by omega
    exact ⟨f.code[j], List.getElem_mem hjl, hc.2 j _ _ (List.getElem?_eq_getElem hjl) (List.getElem?_eq_getElem hj)⟩
  refine ⟨by rw [hp]; exact h.p, by rw [hs]; exact h.s, by rw [hs]; exact h.d, by rw [hlen]; exact h.n, fun y hy => ?_, ?_, fun y hy h22 => ?_, fun y hy => ?_⟩
  · rw [hlen, hp, hs]
    obtain ⟨x, hxm, rfl | ⟨ho, t, t0, t1, rfl⟩⟩ := hx y hy
    · exact h.g _ hxm
    · have g := h.g x hxm
      have gb := g.b
      have gc := g.c
      have gm := g.m
      rw [ho] at gb gc gm
      have hz : szB x.c = true := by
        cases e : szB x.c with
        | true => rfl
        | false =>
          have : mopE N (f.code.length : Nat) 3 x.c = 5 := by unfold mopE; rw [if_neg (by decide), if_neg (by decide), if_neg (by decide), if_pos rfl, if_neg (by rw [e]; decide)]
          rw [show (mshpOf 16).2.2.1 = 3 from rfl, this] at gc
          cases gc
      have hzb := szB_b hz
      have hS := h.s
      exact ⟨rfl, mop2, gb, gc, gm, cov_wr rfl rfl h.p.1 hS.1 t0 (by simp only; omega) (by simp only; omega) (by simp only; omega)⟩
  · rw [← h.cl]
    refine closed_ops (List.ext_getElem (by simp [hlen]) fun j h1 h2 => ?_)
    simp only [List.length_map] at h1 h2
    rw [List.getElem_map, List.getElem_map]
    rcases hc.2 j _ _ (List.getElem?_eq_getElem h2) (List.getElem?_eq_getElem h1) with e | ⟨ho, t, _, _, e⟩
    · rw [e]
    · rw [e, ho]
  · rw [hs]
    obtain ⟨x, hxm, rfl | ⟨ho, t, t0, t1, rfl⟩⟩ := hx y hy
    · exact h.call _ hxm h22
    · simp at h22
  · obtain ⟨x, hxm, rfl | ⟨ho, t, t0, t1, rfl⟩⟩ := hx y hy
    · exact h.imm _ hxm
    · exact h.imm x hxm
theorem draw_fg {F : Pg} {funcs most : Nat} {al : Int} {G : Tg} (h : PgGood funcs most F) (hf2 : funcs ≤ 80) (hm : most ≤ 100) (hal : powB al = true) (hv : StVar (F.map (lowF F al)) G) : G.length = F.length ∧ G.map Fm.params = F.map Fn.params ∧ ∀ q ∈ G, FG F.length al (F.map Fn.params) q := by
  have hlen : G.length = F.length := by rw [hv.1, List.length_map]
  have hat : ∀ (i : Nat) (q : Fm), G[i]? = some q → ∃ f, F[i]? = some f ∧ q.params = f.params ∧ FG F.length al (F.map Fn.params) q := fun i q hq => by
    have hi := (List.getElem?_eq_some_iff.1 hq).1
    have hfi := List.getElem?_eq_getElem (show i < F.length by omega)
    have h0 : (F.map (lowF F al))[i]? = some (lowF F al F[i]) := by rw [List.getElem?_map, hfi]; rfl
    obtain ⟨a1, a2, a3⟩ := hv.2 i _ q h0 hq
    exact ⟨F[i], hfi, a1, var_fg (low_fg h hf2 hm hal hfi) a1 a2 a3⟩
  refine ⟨hlen, List.ext_getElem? fun i => ?_, fun q hq => ?_⟩
  · rw [List.getElem?_map, List.getElem?_map]
    rcases hg : G[i]? with _ | q
    · have : F[i]? = none := List.getElem?_eq_none (by have := List.getElem?_eq_none_iff.1 hg; omega)
      rw [this]; rfl
    · obtain ⟨f, hf, hp, _⟩ := hat i q hg
      rw [hf]
      simp [hp]
  · obtain ⟨i, hi, rfl⟩ := List.mem_iff_getElem.1 hq
    exact (hat i _ (List.getElem?_eq_getElem hi)).choose_spec.2.2
theorem draw_zero {F : Pg} {funcs most : Nat} {al : Int} {G : Tg} (h : PgGood funcs most F) (hf2 : funcs ≤ 80) (hm : most ≤ 100) (hal : powB al = true) (h16 : 16 ≤ al) (hv : StVar (F.map (lowF F al)) G) : tgE al G = 0 := by
  obtain ⟨hlen, hps, hfg⟩ := draw_fg h hf2 hm hal hv
  obtain ⟨h80, ⟨f0, r0, hF0, hp0⟩, _⟩ := pgE_zero.1 h.err
  have hG1 : 0 < G.length := by rw [hlen, hF0]; simp
  have hq0 := List.getElem?_eq_getElem hG1
  have hpe : (G[0]).params = 0 := by
    have e := congrArg (fun l => l[0]?) hps
    simp only [List.getElem?_map] at e
    rw [hq0, hF0] at e
    simp at e
    rw [e]; exact hp0
  rw [tgE_rest (by omega) hq0 ⟨hal, h16⟩ hpe]
  have hf : firstE (G.map (fmE al G.length)) = 0 := firstE_zero.2 fun e he => by
    obtain ⟨q, hq, rfl⟩ := List.mem_map.1 he
    rw [hlen]
    exact fm_zero (hfg q hq) hal
  rw [if_neg (by rw [hf]; decide)]
  have hroom : G.all (roomB G) = true := List.all_eq_true.2 fun q hq => List.all_eq_true.2 fun x hx => by
    by_cases h22 : x.op = 22
    · have hc := (hfg q hq).call x hx h22
      rw [← hps, List.getElem?_map] at hc
      unfold callB
      rw [decide_eq_true h22, Bool.true_and, decide_eq_false (by omega)]
      rfl
    · exact callB_other h22
  rw [if_pos hroom]
end Go.Proofs.Ytafegghdhdgioab
end

section
/-
  The contract of spillframedraw's Input: at most three numbers, in a row of the call's own. Condition: the receiver is a list of choices.
-/
namespace Go.Proofs.Ytafegghdhdgioab
open Go.RowKit

theorem info_u64 : (Try.prog.info? 32).map (fun i => (i.zero, i.size, i.bytes)) = some (some (.int .u64 0), 1, 8) := by kernel_rfl
theorem inp_new (w : World) (x : Value) (t : TypeId) : ∀ (j : Nat) (u : Value), [x][j]? = some u → (w.alloc (.cells #[x] t)).cell? ((⟨w.heap.size, 0, none⟩ : Addr).add j) = some u := by
  intro j u hu
  rw [WideShapes.add_plain, Nat.zero_add]
  exact (Row.new w t [x]).cell hu
theorem ucells_length (l : List Nat) : (ucells l).length = l.length := by simp [ucells]
theorem ucells_add (l : List Nat) (v : Nat) : ucells (l ++ [v]) = ucells l ++ [.int .u64 (v : Int)] := by simp [ucells]
/-- What the loop keeps. -/
def InpRel (w0 : World) (g : Nat) (nv lv : Value) (wr : World) : Prop :=
  ∃ (k : Nat) (l : List Nat), k + l.length ≤ 3 ∧ nv = .int .i64 (k : Int) ∧ wr.ownsRow w0.heap.size 32 1 lv l.length (ucells l) ∧ (∀ v ∈ l, v < 18446744073709551616) ∧ Codes wr g ∧ w0.grownBy wr (some g)
def InpPost (g : Nat) (w : World) (e : Ending) (w' : World) : Prop :=
  ∃ (A : Option Addr) (n c : Nat) (l : List Nat), e = .returned (.slice A n c) ∧ l.length = n ∧ n ≤ 3 ∧ (A = none → c = 0) ∧ w'.ownsRow w.heap.size 32 1 (.slice A n c) n (ucells l) ∧ (∀ v ∈ l, v < 18446744073709551616) ∧ Codes w' g ∧ w.grownBy w' (some g)
section
variable {w0 wr w2 w3 : World} {g : Nat} {lv v' : Value} {l : List Nat}
theorem inp_far (ho : wr.ownsRow w0.heap.size 32 1 lv l.length (ucells l)) (hg : g < w0.heap.size) : lv.ownBlock = none ∨ lv.ownBlock ≠ some g := by
  cases e : lv.ownBlock with
  | none => exact .inl rfl
  | some k => exact .inr fun h => by have := (ho.lt k e).1; injection h with h; omega
theorem InpRel.step {k : Nat} {x : Int} (hk : k + 1 + l.length ≤ 3) (hg : g < w0.heap.size) (ho : w2.ownsRow w0.heap.size 32 1 lv l.length (ucells l)) (hok : ∀ v ∈ l, v < 18446744073709551616) (hx : isW x) (hC : Codes w2 g) (hG : w0.grownBy w2 (some g))
    (ho' : w3.ownsRow w0.heap.size 32 1 v' (l.length + 1) (ucells l ++ [.int .u64 x])) (hg' : (w2.alloc (.cells #[.int .u64 x] 32)).grownBy w3 lv.ownBlock) :
    InpRel w0 g (.int .i64 (k : Int)) v' w3 := by
  obtain ⟨v, rfl⟩ := Int.eq_ofNat_of_zero_le hx.1
  have hv := hx.2
  refine ⟨k, l ++ [v], by simp; omega, rfl, ?_, fun u hu => ?_, (hC.alloc _).kept hg' (fun j hj => ?_), (hG.trans (World.grownBy_alloc _ _ _)).andThen hg' (fun j hj => .inl (ho.lt j hj).1)⟩
  · rw [ucells_add]
    simpa using ho'
  · rcases List.mem_append.1 hu with h | h
    · exact hok u h
    · simp at h; subst h; omega
  · have := (ho.lt j hj).1
    omega
theorem InpRel.start {k : Nat} (hk : k ≤ 3) (hC : Codes wr g) (hG : w0.grownBy wr (some g)) : InpRel w0 g (.int .i64 (k : Int)) (.slice none 0 0) wr :=
  ⟨k, [], by simpa using hk, rfl, ⟨by simp [ucells], .inl ⟨rfl, rfl⟩⟩, (fun u hu => by cases hu), hC, hG⟩
end

set_option maxRecDepth 100000 in
set_option maxHeartbeats 1000000 in
theorem input_any (g : Nat) (w : World) (h : Hid (Codes w g)) : Calls Try.prog 10 #[.pointer (some ⟨g, 0, none⟩)] w (InpPost g w) := by
  obtain ⟨i0, hi, hz0, hz1, hz2⟩ := info_parts info_u64
  have hg := h.out.lt
  go_enter Try.func10, Try.ntmps10
  go_wp2_with fail
  refine (next_any g _ _ h (by omega) (by omega)).mono ?_
  rintro e w1 ⟨v, rfl, v0, v1, hC, hG, hz⟩
  clear hz
  obtain ⟨k, rfl⟩ := Int.eq_ofNat_of_zero_le v0
  have HR := hide (InpRel.start (by omega : k ≤ 3) hC hG)
  clear hC hG v0 v1
  go_wp2_with fail
  go_loopw [4, 3] (fun nv lv wr => Hid (InpRel w g nv lv wr)) (fun nv _ _ => (intOf nv).toNat)
  case atStart => exact HR
  case round =>
    obtain ⟨k, l, hk, rfl, ho, hok, hC, hG⟩ := hrel.out
    have Hok := hide hok
    have HC := hide hC
    have HG := hide hG
    clear HR hrel hok hC hG
    by_cases hlt : 0 < k
    · have hlt' : (0 : Int) < (k : Int) := by omega
      obtain ⟨j, rfl⟩ : ∃ j, k = j + 1 := ⟨k - 1, by omega⟩
      go_wp2_with fail
      refine (cword_any g _ HC).mono ?_
      rintro e w2 ⟨x, rfl, hx, hC2, hG2, hz2⟩
      have ho2 := ho.kept hG2 (inp_far ho hg)
      have HX := hide hx
      have HC2 := hide hC2
      have HG2 := hide (HG.out.trans hG2)
      have hbs : w.heap.size ≤ w2.heap.size := HG2.out.size
      clear hx hC2 hG2 ho hz2
      go_wp2_with (at_builtin; refine wpList_append_own _ rfl (.tmp 11) (.tmp 14) 27 rfl w.heap.size 32 i0 (.int .u64 0) 1 8 Try.underlying27 hi hz0 hz1 hz2 rfl (by decide) _ l.length (ucells l) rfl (ho2.alloc _) ⟨w2.heap.size, 0, none⟩ 1 1 [.int .u64 x] rfl rfl (inp_new _ _ _) (fun u hu => by simp at hu; subst hu; rfl) (by unfold maxLen; omega) (by omega) (by simp; omega) ?_)
      intro v' w3 ho3 hg3 _
      have R := hide (InpRel.step (k := j) (by omega : j + 1 + l.length ≤ 3) hg ho2 Hok.out HX.out HC2.out HG2.out ho3 hg3)
      clear ho3 hg3 ho2
      go_wp2_with fail
      go_roundw
      case rel => first | exact R | (have e : ((j + 1 : Nat) : Int) - 1 = (j : Int) := by omega
                                     simpa [e] using R)
      case measure => simp [intOf]
    · obtain rfl : k = 0 := by omega
      obtain ⟨A, c, rfl, hA, _⟩ := own_form ho
      have HO := hide ho
      clear ho
      go_wp2_with fail
      go_ret
      exact ⟨A, l.length, c, l, rfl, rfl, by omega, hA, HO.out, Hok.out, HC.out, HG.out⟩
end Go.Proofs.Ytafegghdhdgioab
end

section
/-
  Bytes as numbers; bytes at a slice; what a call on a drawn list leaves. No function of the program is named here.
-/
namespace Go.Proofs.Ytafegghdhdgioab
open Go.RowKit

/-- Bytes. -/
def Byt (l : List Int) : Prop := ∀ z ∈ l, 0 ≤ z ∧ z ≤ 255
theorem Byt.nil_ : Byt [] := fun z h => by cases h
theorem Byt.one {z : Int} (h0 : 0 ≤ z) (h1 : z ≤ 255) : Byt [z] := fun y h => by simp at h; subst h; exact ⟨h0, h1⟩
theorem Byt.cons {z : Int} {l : List Int} (h0 : 0 ≤ z) (h1 : z ≤ 255) (h : Byt l) : Byt (z :: l) := fun y hy => by
  rcases List.mem_cons.1 hy with rfl | hy
  · exact ⟨h0, h1⟩
  · exact h y hy
theorem Byt.app {l m : List Int} (h : Byt l) (h' : Byt m) : Byt (l ++ m) := fun z hz => by
  rcases List.mem_append.1 hz with h1 | h1
  · exact h z h1
  · exact h' z h1
theorem Byt.left {l m : List Int} (h : Byt (l ++ m)) : Byt l := fun z hz => h z (List.mem_append_left _ hz)
theorem Byt.right {l m : List Int} (h : Byt (l ++ m)) : Byt m := fun z hz => h z (List.mem_append_right _ hz)
theorem Byt.take {l : List Int} (h : Byt l) (n : Nat) : Byt (l.take n) := fun z hz => h z (List.mem_of_mem_take hz)
theorem Byt.drop {l : List Int} (h : Byt l) (n : Nat) : Byt (l.drop n) := fun z hz => h z (List.mem_of_mem_drop hz)
theorem Byt.flat {α : Type} {f : α → List Int} {l : List α} (h : ∀ a ∈ l, Byt (f a)) : Byt (l.flatMap f) := fun z hz => by
  obtain ⟨a, ha, hz⟩ := List.mem_flatMap.1 hz
  exact h a ha z hz
/-- Bytes at a slice, below block B. -/
structure BsAt (w : World) (B : Nat) (A : Option Addr) (n c : Nat) (zs : List Int) : Prop where
  len : zs.length = n
  nc : n ≤ c
  nil_ : A = none → c = 0
  cm : c ≤ 9223372036854775807
  byt : Byt zs
  see : Sees w B A (cellsU8 zs)
section
variable {w w' : World} {B B' n c : Nat} {A : Option Addr} {zs : List Int}
theorem BsAt.below (h : BsAt w B A n c zs) (hb : Below B w w') : BsAt w' B A n c zs := ⟨h.len, h.nc, h.nil_, h.cm, h.byt, h.see.below hb⟩
theorem BsAt.more (h : BsAt w B A n c zs) (hB : B ≤ B') : BsAt w B' A n c zs := ⟨h.len, h.nc, h.nil_, h.cm, h.byt, h.see.more hB⟩
theorem BsAt.call (h : BsAt w w.heap.size A n c zs) (hb : Below w.heap.size w w') : BsAt w' w'.heap.size A n c zs := (h.below hb).more hb.size
theorem BsAt.keep (h : BsAt w B A n c zs) (hk : ∀ p : Addr, p.block < B → w'.cell? p = w.cell? p) : BsAt w' B A n c zs := ⟨h.len, h.nc, h.nil_, h.cm, h.byt, h.see.keep hk⟩
theorem BsAt.own {base : Nat} {t : TypeId} (h : w.ownsRow base t 1 (.slice A n c) n (cellsU8 zs)) (hz : Byt zs) : BsAt w w.heap.size A n c zs := by
  obtain ⟨A', c', e, hA, hnc, _, hs⟩ := own_seen h
  obtain ⟨A'', c'', e', _, hcm⟩ := own_form h
  injection e with e1 _ e3
  subst e1 e3
  have hc : c ≤ maxLen := by
    rcases h.2 with ⟨he, h0⟩ | ⟨g, cap, cur, he, _, _, _, hm, _⟩
    · injection he with _ _ he; subst he; omega
    · injection he with _ _ he; omega
  exact ⟨by have := own_len h; simpa [cellsU8] using this, hnc, hA, by unfold maxLen at hc; exact hc, hz, hs⟩
/-- The first k bytes. -/
theorem BsAt.take (h : BsAt w B A n c zs) {k : Nat} (hk : k ≤ n) : BsAt w B A k c (zs.take k) := ⟨by rw [List.length_take, h.len]; omega, by have := h.nc; omega, h.nil_, h.cm, h.byt.take k, by have := h.see.take k; rwa [take_cells] at this⟩
end

theorem zero_pg (w : World) (lo B : Nat) : PgAt w lo B none 0 0 [] [] := ⟨rfl, ⟨fun _ => rfl, Nat.le_refl _, Nat.zero_le _⟩, Far.none _, Sees.nil_ _ _ _, ⟨rfl, fun k h f e => by simp at e⟩⟩
theorem below_inner {w w' w'' : World} {D : Nat} (h : Below w.heap.size w w') (hG : w'.grownBy w'' (some D)) (hD : w.heap.size ≤ D) : Below w.heap.size w w'' := h.grown hG h.size fun k hk => by injection hk with hk; omega
end Go.Proofs.Ytafegghdhdgioab
end
