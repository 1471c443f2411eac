import Derived.Test.YtlkcjjalkdlicaaDoorMBeq
import Derived.Test.YtlkcjjalkdlicaaDoorMJdt
import Derived.Test.YtlkcjjalkdlicaaDoorMMrsam
import Derived.Test.YtlkcjjalkdlicaaDoorMMod
import Derived.Test.YtlkcjjalkdlicaaDoorMJlaid
import Derived.Test.YtlkcjjalkdlicaaDoorMJenc
import Derived.Test.YtlkcjjalkdlicaaDoorMJren
import Derived.Test.YtlkcjjalkdlicaaDoorMMrci
import Derived.Test.YtlkcjjalkdlicaaDoorMQputi
import Derived.Test.YtlkcjjalkdlicaaDoorTie
import Derived.Test.YtlkcjjalkdlicaaDoorCards
import Derived.Laws.BitsAllLaws
import Derived.Lib.SmallJoins
import Derived.SevenTiedAt
set_option linter.unusedVariables false
set_option linter.unusedSimpArgs false
section
/-
  The texts that the laws of chapter 11 lean on.
-/
namespace Go.Proofs.YtlkcjjalkdlicaaDoor
end Go.Proofs.YtlkcjjalkdlicaaDoor
end

section
/-
  A drawn program, lowered with its plain layouts and with some stores' offsets drawn anew, is a right target that can be written. No function of the program is named here.
-/
namespace Go.Proofs.YtlkcjjalkdlicaaDoor
open Go.RowKit

theorem mop0 {N C n : Int} (h : withB n 1 = true) : mopE N C 0 n = 0 := by
  have := withB_true.1 h
  unfold mopE
  rw [if_pos rfl, if_pos (by omega)]
theorem mop1 {N C n : Int} (h : withB n 8 = true) : mopE N C 1 n = 0 := by unfold mopE; rw [if_neg (by decide), if_pos rfl, if_pos h]
theorem mop2 {N C n : Int} : mopE N C 2 n = 0 := by unfold mopE; rw [if_neg (by decide), if_neg (by decide), if_neg (by decide), if_neg (by decide), if_neg (by decide)]
theorem mop3 {N C n : Int} (h : szB n = true) : mopE N C 3 n = 0 := by unfold mopE; rw [if_neg (by decide), if_neg (by decide), if_neg (by decide), if_pos rfl, if_pos h]
theorem mop4 {N C n : Int} (h : withB n N = true) : mopE N C 4 n = 0 := by unfold mopE; rw [if_neg (by decide), if_neg (by decide), if_pos rfl, if_pos h]
theorem mop5 {N C n : Int} (h : withB n C = true) : mopE N C 5 n = 0 := by unfold mopE; rw [if_neg (by decide), if_neg (by decide), if_neg (by decide), if_neg (by decide), if_pos rfl, if_pos h]
/-- An instruction of a frame without an error. -/
structure GI (N C : Int) (P S : Int) (x : Ins) : Prop where
  ex : exB x.op = true
  a : mopE N C (mshpOf x.op).1 x.a = 0
  b : mopE N C (mshpOf x.op).2.1 x.b = 0
  c : mopE N C (mshpOf x.op).2.2.1 x.c = 0
  m : (mshpOf x.op).2.2.2 = true ∨ x.imm = 0
  cov : covB P S x = true
theorem GI.zero {N : Nat} {f : Fm} {x : Ins} (h : GI N f.code.length f.params f.size x) : minsE N f x = 0 := by
  unfold minsE
  rw [if_neg (by rw [h.ex]; decide), h.cov]
  have e : mfound N f.code.length x = [0, 0, 0] := by
    unfold mfound foundE
    rw [h.a, h.b, h.c, if_neg (by
      rintro ⟨h1, h2⟩
      rcases h.m with e | e
      · rw [e] at h1; cases h1
      · exact h2 e)]
    rfl
  rw [e]
  decide
theorem insB_of {o s n : Int} (h0 : 0 ≤ o) (h1 : 0 ≤ s) (h2 : o + s ≤ 2147483647) (h3 : o + s ≤ n) : insB o s n = true := by
  unfold insB
  rw [Bool.and_eq_true, rightB_iff, decide_eq_true_eq]
  exact ⟨⟨h0, h1, h2⟩, h3⟩
theorem cov_none {P S : Int} {x : Ins} (hr : rdB x.op = false) (hw : wrB x.op = false) (hP : 0 ≤ P) (hS : 0 ≤ S) : covB P S x = true := by
  unfold covB rdI wrI
  rw [hr, hw]
  simp only [Bool.false_eq_true, if_false]
  rw [insB_of (by omega) (by omega) (by omega) (by omega), insB_of (by omega) (by omega) (by omega) (by omega)]
  rfl
theorem cov_rd {P S : Int} {x : Ins} (hr : rdB x.op = true) (hw : wrB x.op = false) (hS : 0 ≤ S) (h0 : 0 ≤ x.b) (h1 : 0 ≤ x.c) (h2 : x.b + x.c ≤ 2147483647) (h3 : x.b + x.c ≤ S + 16 * P) : covB P S x = true := by
  unfold covB rdI wrI
  rw [hr, hw]
  simp only [Bool.false_eq_true, if_false, if_true]
  rw [insB_of h0 h1 h2 h3, insB_of (by omega) (by omega) (by omega) (by omega)]
  rfl
theorem cov_wr {P S : Int} {x : Ins} (hr : rdB x.op = false) (hw : wrB x.op = true) (hP : 0 ≤ P) (hS : 0 ≤ S) (h0 : 0 ≤ x.a) (h1 : 0 ≤ x.c) (h2 : x.a + x.c ≤ 2147483647) (h3 : x.a + x.c ≤ S) : covB P S x = true := by
  unfold covB rdI wrI
  rw [hr, hw]
  simp only [Bool.false_eq_true, if_false, if_true]
  rw [insB_of (by omega) (by omega) (by omega) (by omega), insB_of h0 h1 h2 h3]
  rfl
theorem argI_ge (F : Pg) (n : Int) (x : Ins) : n ≤ argI F n x := by
  unfold argI
  (repeat' split) <;> omega
theorem argN_ge {F : Pg} {l : List Ins} : ∀ k, k ≤ l.length → ∀ (j : Nat) (hl : j < l.length), j < k → (l[j].op = 18 → l[j].a + 1 ≤ argN F (l.take k)) ∧ (l[j].op = 22 → ((F[l[j].a.toNat]?).map Fn.params).getD 0 ≤ argN F (l.take k)) := by
  intro k
  induction k with
  | zero => intro _ j _ hj; omega
  | succ k ih =>
    intro hk j hl hj
    rw [argN_snoc F l k (by omega)]
    by_cases hjk : j < k
    · have h := ih (by omega) j hl hjk
      have hg := argI_ge F (argN F (l.take k)) l[k]
      exact ⟨fun e => Int.le_trans (h.1 e) hg, fun e => Int.le_trans (h.2 e) hg⟩
    · obtain rfl : j = k := by omega
      refine ⟨fun e => ?_, fun e => ?_⟩
      · rw [argI_arg e]; omega
      · unfold argI
        rw [if_neg (by omega), if_pos e]
        omega
/-- Where each slot lies. -/
theorem offs {a : Int} {l : List (Int × Int)} (ha : 0 ≤ a ∧ a ≤ 128) (hs : ∀ u ∈ l, slotB u.1 u.2 = true) : ∀ k, k ≤ l.length → ∀ (j : Nat) (hl : j < l.length), j < k → ∃ o, (basF a (l.take k)).1[j]? = some o ∧ a ≤ o ∧ o + l[j].1 ≤ (basF a (l.take k)).2 := by
  intro k
  induction k with
  | zero => intro _ j _ hj; omega
  | succ k ih =>
    intro hk j hl hj
    have hlen := basF_len a l k (by omega)
    have hb := basF_b ha hs k (by omega)
    rw [basF_snoc a l k (by omega)]
    have hsl := hs _ (List.getElem_mem (show k < l.length by omega))
    unfold slotB at hsl
    rw [Bool.and_eq_true] at hsl
    have h1 := szB_b hsl.1
    have h2 := powB_b hsl.2
    have hu := upM_b (basF a (l.take k)).2 (show 0 < l[k].2 by omega)
    unfold basI
    simp only
    by_cases hjk : j < k
    · obtain ⟨o, e1, e2, e3⟩ := ih (by omega) j hl hjk
      exact ⟨o, by rw [List.getElem?_append_left (by omega)]; exact e1, e2, by omega⟩
    · obtain rfl : j = k := by omega
      refine ⟨upM (basF a (l.take j)).2 l[j].2, by rw [List.getElem?_append_right (by omega), hlen, Nat.sub_self]; rfl, by omega, by omega⟩
theorem term_low (os : List Int) (sl : List (Int × Int)) (S : Int) (x : Ins) : termB (lowX os sl S x).op = termB x.op := by
  unfold lowX
  (repeat' split) <;> rename_i h <;> simp_all [termB]
theorem low_gi {F : Pg} {f : Fn} {al : Int} (hF : LowPg2 F) (hf : f ∈ F) (hfn : fnE F.length f = 0) (hal : powB al = true) {x : Ins} (hx : x ∈ f.code) :
    GI F.length (f.code.length : Nat) f.params (lowF F al f).size (lowX (basF (argN F f.code * 16) f.slots).1 f.slots (lowF F al f).size x) := by
  obtain ⟨hc, hsl0, hp, hins, _⟩ := fnE_zero.1 hfn
  obtain ⟨ho, e1, e2, e3, hm, hmv⟩ := insE_zero.1 (hins x hx)
  rw [opndE_zero] at e1 e2 e3
  have hsl := hF.pg.slot f hf
  have hab := argN_b (hF.pg.arg f hf) f.code.length
  rw [List.take_of_length_le (Nat.le_refl _)] at hab
  have hS := low_size (hF.pg.arg f hf) hsl (hF.pg.six f hf) hal
  have hoff := offs (a := argN F f.code * 16) (by omega) hsl f.slots.length (Nat.le_refl _)
  rw [List.take_of_length_le (Nat.le_refl _)] at hoff
  have hbb := basF_b (a := argN F f.code * 16) (by omega) hsl f.slots.length (Nat.le_refl _)
  rw [List.take_of_length_le (Nat.le_refl _)] at hbb
  have hal0 := powB_b hal
  have hup := upM_b (basF (argN F f.code * 16) f.slots).2 (show 0 < al by omega)
  have hSd : (lowF F al f).size = upM (basF (argN F f.code * 16) f.slots).2 al := rfl
  obtain ⟨S, hSe⟩ : ∃ S, (lowF F al f).size = S := ⟨_, rfl⟩
  rw [hSe] at hS hSd ⊢
  have hslot : ∀ k : Int, 0 ≤ k → k < f.slots.length → ∃ o, (basF (argN F f.code * 16) f.slots).1.getD k.toNat 0 = o ∧ 0 ≤ o ∧ o + sizeAt f.slots k ≤ S ∧ szB (sizeAt f.slots k) = true := fun k h0 h1 => by
    obtain ⟨j, rfl⟩ := Int.eq_ofNat_of_zero_le h0
    have hj : j < f.slots.length := by omega
    obtain ⟨o, q1, q2, q3⟩ := hoff j hj hj
    have hz := hsl _ (List.getElem_mem hj)
    unfold slotB at hz
    rw [Bool.and_eq_true] at hz
    rw [sz_at hj]
    exact ⟨o, by rw [Int.toNat_natCast, List.getD_eq_getElem?_getD, q1]; rfl, by omega, by omega, hz.1⟩
  have harg : x.op = 18 → 16 * x.a + 16 ≤ S := fun h18 => by
    obtain ⟨j, hj, rfl⟩ := List.mem_iff_getElem.1 hx
    have h := (argN_ge (F := F) f.code.length (Nat.le_refl _) j hj hj).1 h18
    rw [List.take_of_length_le (Nat.le_refl _)] at h
    omega
  clear hoff hbb hup hSd hx hins
  obtain ⟨os, hos⟩ : ∃ os, (basF (argN F f.code * 16) f.slots).1 = os := ⟨_, rfl⟩
  rw [hos] at hslot ⊢
  clear hos
  obtain ⟨o, a, b, c, m⟩ := x
  simp only at ho e1 e2 e3 hm hmv harg
  rcases m25 ho.1 ho.2 with rfl | rfl | rfl | rfl | rfl | rfl | rfl | rfl | rfl | rfl | rfl | rfl | rfl | rfl | rfl | rfl | rfl | rfl | rfl | rfl | rfl | rfl | rfl | rfl | rfl
  case inr.inr.inr.inr.inr.inr.inr.inr.inr.inr.inr.inr.inr.inr.inr.inl =>
    obtain ⟨z, z1, z2, z3, z4⟩ := hslot b (withB_true.1 e2).1 (withB_true.1 e2).2
    have hb := szB_b z4
    rw [show lowX os f.slots S ⟨15, a, b, c, m⟩ = ⟨15, a, z, sizeAt f.slots b, 0⟩ from by rw [← z1]; rfl]
    exact ⟨rfl, mop1 e1, mop2, mop3 z4, .inr rfl, cov_rd rfl rfl hS.1 z2 (by simp only; omega) (by simp only; omega) (by simp only; omega)⟩
  case inr.inr.inr.inr.inr.inr.inr.inr.inr.inr.inr.inr.inr.inr.inr.inr.inl =>
    obtain ⟨z, z1, z2, z3, z4⟩ := hslot a (withB_true.1 e1).1 (withB_true.1 e1).2
    have hb := szB_b z4
    rw [show lowX os f.slots S ⟨16, a, b, c, m⟩ = ⟨16, z, b, sizeAt f.slots a, 0⟩ from by rw [← z1]; rfl]
    exact ⟨rfl, mop2, mop1 e2, mop3 z4, .inr rfl, cov_wr rfl rfl hp.1 hS.1 z2 (by simp only; omega) (by simp only; omega) (by simp only; omega)⟩
  case inr.inr.inr.inr.inr.inr.inr.inr.inr.inr.inr.inr.inr.inr.inr.inr.inr.inl =>
    obtain ⟨z, z1, z2, z3, z4⟩ := hslot a (withB_true.1 e1).1 (withB_true.1 e1).2
    obtain ⟨y, y1, y2, y3, y4⟩ := hslot b (withB_true.1 e2).1 (withB_true.1 e2).2
    have hb := szB_b z4
    have heq : sizeAt f.slots a = sizeAt f.slots b := by
      unfold moveBad at hmv
      simpa using hmv
    rw [show lowX os f.slots S ⟨17, a, b, c, m⟩ = ⟨17, z, y, sizeAt f.slots a, 0⟩ from by rw [← z1, ← y1]; rfl]
    refine ⟨rfl, mop2, mop2, mop3 z4, .inr rfl, ?_⟩
    unfold covB rdI wrI
    rw [show rdB 17 = true from rfl, show wrB 17 = true from rfl]
    simp only [if_true]
    rw [insB_of y2 (by omega) (by omega) (by omega), insB_of z2 (by omega) (by omega) (by omega)]
    rfl
  case inr.inr.inr.inr.inr.inr.inr.inr.inr.inr.inr.inr.inr.inr.inr.inr.inr.inr.inl =>
    have h1 := withB_true.1 (show withB a 8 = true from e1)
    have h2 := harg rfl
    rw [show lowX os f.slots S ⟨18, a, b, c, m⟩ = ⟨16, 16 * a, b, 16, 0⟩ from rfl]
    exact ⟨rfl, mop2, mop1 e2, mop3 (show szB 16 = true by decide), .inr rfl, cov_wr rfl rfl hp.1 hS.1 (by simp only; omega) (by simp only; omega) (by simp only; omega) (by simp only; omega)⟩
  case inr.inr.inr.inr.inr.inr.inr.inr.inr.inr.inr.inr.inr.inr.inr.inr.inr.inr.inr.inl =>
    have h1 := withB_true.1 (show withB b f.params = true from e2)
    rw [show lowX os f.slots S ⟨19, a, b, c, m⟩ = ⟨15, a, S + 16 * b, 16, 0⟩ from rfl]
    exact ⟨rfl, mop1 e1, mop2, mop3 (show szB 16 = true by decide), .inr rfl, cov_rd rfl rfl hS.1 (by simp only; omega) (by simp only; omega) (by simp only; omega) (by simp only; omega)⟩
  all_goals
    refine ⟨rfl, ?_, ?_, ?_, hm, cov_none rfl rfl hp.1 hS.1⟩
    · first | exact mop0 e1 | exact mop1 e1 | exact mop4 e1 | exact mop5 e1
    · first | exact mop0 e2 | exact mop1 e2 | exact mop4 e2 | exact mop5 e2
    · first | exact mop0 e3 | exact mop1 e3 | exact mop4 e3 | exact mop5 e3
theorem closed_ops {l l' : List Ins} (h : l'.map (fun x => termB x.op) = l.map (fun x => termB x.op)) : closedB l' = closedB l := by
  have e : ∀ m : List Ins, closedB m = ((m.map (fun x => termB x.op)).getLast?).getD false := fun m => by
    unfold closedB
    rw [List.getLast?_map]
    cases m.getLast? <;> rfl
  rw [e, e, h]
/-- A frame of the drawn target. -/
structure FG (N : Nat) (al : Int) (ps : List Int) (q : Fm) : Prop where
  p : 0 ≤ q.params ∧ q.params ≤ 8
  s : 0 ≤ q.size ∧ q.size ≤ 268435456
  d : q.size % al = 0
  n : q.code.length ≤ 1024
  g : ∀ x ∈ q.code, GI N (q.code.length : Nat) q.params q.size x
  cl : closedB q.code = true
  call : ∀ x ∈ q.code, x.op = 22 → 16 * ((ps[x.a.toNat]?).getD 0) ≤ q.size
  imm : ∀ x ∈ q.code, 0 ≤ x.imm ∧ x.imm ≤ 18446744073709551615
theorem fm_zero {N : Nat} {al : Int} {ps : List Int} {q : Fm} (h : FG N al ps q) (hal : powB al = true) : fmE al N q = 0 := by
  have hs : shB al q = true := by
    unfold shB
    have h1 := h.p
    have h2 := h.s
    rw [hal, withB_true.2 (show 0 ≤ q.params ∧ q.params < 9 by omega), withB_true.2 (show 0 ≤ q.size ∧ q.size < 2147483520 by omega), decide_eq_true h.d]
    rfl
  have hf : firstE (q.code.map (minsE N q)) = 0 := firstE_zero.2 fun e he => by
    obtain ⟨x, hx, rfl⟩ := List.mem_map.1 he
    exact (h.g x hx).zero
  have hn := h.n
  unfold fmE
  rw [if_neg (by rw [hs]; decide), if_neg (by omega), if_neg (by rw [hf]; decide), if_neg (by rw [h.cl]; decide)]
theorem low_fg {F : Pg} {funcs most i : Nat} (h : PgGood funcs most F) (hf2 : funcs ≤ 80) (hm : most ≤ 100) {al : Int} (hal : powB al = true) {f : Fn} (hf : F[i]? = some f) : FG F.length al (F.map Fn.params) (lowF F al f) := by
  have hl := good_low h hf2 hm
  have hfm := List.mem_of_getElem? hf
  have hfn := (pgE_zero.1 h.err).2.2 f hfm
  obtain ⟨hc, hsl0, hp, hins, hcl⟩ := fnE_zero.1 hfn
  have hgd := (h.fn i f hf).1
  have hal0 := powB_b hal
  have hlen : (lowF F al f).code.length = f.code.length := by unfold lowF; simp
  have hS := low_size (hl.pg.arg f hfm) (hl.pg.slot f hfm) (hl.pg.six f hfm) hal
  refine ⟨hp, hS, Int.emod_eq_zero_of_dvd (upM_dvd _ _), by rw [hlen]; exact hc, fun y hy => ?_, ?_, fun y hy h22 => ?_, fun y hy => ?_⟩
  · obtain ⟨x, hx, rfl⟩ := List.mem_map.1 (show y ∈ f.code.map _ from hy)
    rw [hlen]
    exact low_gi hl hfm hfn hal hx
  · rw [← hcl]
    refine closed_ops ?_
    show (f.code.map _).map _ = _
    rw [List.map_map]
    exact List.map_congr_left fun x _ => term_low _ _ _ x
  · obtain ⟨x, hx, rfl⟩ := List.mem_map.1 (show y ∈ f.code.map _ from hy)
    have hx22 : x.op = 22 := by
      unfold lowX at h22
      by_cases a1 : x.op = 15
      · rw [if_pos a1] at h22; simp at h22
      · rw [if_neg a1] at h22
        by_cases a2 : x.op = 16
        · rw [if_pos a2] at h22; simp at h22
        · rw [if_neg a2] at h22
          by_cases a3 : x.op = 17
          · rw [if_pos a3] at h22; simp at h22
          · rw [if_neg a3] at h22
            by_cases a4 : x.op = 18
            · rw [if_pos a4] at h22; simp at h22
            · rw [if_neg a4] at h22
              by_cases a5 : x.op = 19
              · rw [if_pos a5] at h22; simp at h22
              · rw [if_neg a5] at h22; exact h22
    have hxe : lowX (basF (argN F f.code * 16) f.slots).1 f.slots (upM (basF (argN F f.code * 16) f.slots).2 al) x = x := by
      unfold lowX
      rw [if_neg (by omega), if_neg (by omega), if_neg (by omega), if_neg (by omega), if_neg (by omega)]
    rw [hxe]
    obtain ⟨j, hj, rfl⟩ := List.mem_iff_getElem.1 hx
    have hg := (argN_ge (F := F) f.code.length (Nat.le_refl _) j hj hj).2 hx22
    rw [List.take_of_length_le (Nat.le_refl _)] at hg
    have hab := argN_b (hl.pg.arg f hfm) f.code.length
    rw [List.take_of_length_le (Nat.le_refl _)] at hab
    have hbb := basF_b (a := argN F f.code * 16) (by omega) (hl.pg.slot f hfm) f.slots.length (Nat.le_refl _)
    rw [List.take_of_length_le (Nat.le_refl _)] at hbb
    have hup := upM_b (basF (argN F f.code * 16) f.slots).2 (show 0 < al by omega)
    have hSd : (lowF F al f).size = upM (basF (argN F f.code * 16) f.slots).2 al := rfl
    rw [List.getElem?_map]
    omega
  · obtain ⟨x, hx, rfl⟩ := List.mem_map.1 (show y ∈ f.code.map _ from hy)
    have hi := hgd.imm x hx
    unfold immI at hi
    unfold lowX
    (repeat' split) <;> first | exact hi | exact ⟨by decide, by decide⟩ | (simp only; omega)
theorem var_fg {N : Nat} {al : Int} {ps : List Int} {f q : Fm} (h : FG N al ps f) (hp : q.params = f.params) (hs : q.size = f.size) (hc : CdVar f.size f.code q.code) : FG N al ps q := by
  have hlen := hc.1
  have hx : ∀ y ∈ q.code, ∃ x ∈ f.code, (y = x ∨ (x.op = 16 ∧ ∃ t : Int, 0 ≤ t ∧ t + x.c ≤ f.size ∧ y = ⟨16, t, x.b, x.c, x.imm⟩)) := fun y hy => by
    obtain ⟨j, hj, rfl⟩ := List.mem_iff_getElem.1 hy
    have hjl : j < f.code.length := by omega
    exact ⟨f.code[j], List.getElem_mem hjl, hc.2 j _ _ (List.getElem?_eq_getElem hjl) (List.getElem?_eq_getElem hj)⟩
  refine ⟨by rw [hp]; exact h.p, by rw [hs]; exact h.s, by rw [hs]; exact h.d, by rw [hlen]; exact h.n, fun y hy => ?_, ?_, fun y hy h22 => ?_, fun y hy => ?_⟩
  · rw [hlen, hp, hs]
    obtain ⟨x, hxm, rfl | ⟨ho, t, t0, t1, rfl⟩⟩ := hx y hy
    · exact h.g _ hxm
    · have g := h.g x hxm
      have gb := g.b
      have gc := g.c
      have gm := g.m
      rw [ho] at gb gc gm
      have hz : szB x.c = true := by
        cases e : szB x.c with
        | true => rfl
        | false =>
          have : mopE N (f.code.length : Nat) 3 x.c = 5 := by unfold mopE; rw [if_neg (by decide), if_neg (by decide), if_neg (by decide), if_pos rfl, if_neg (by rw [e]; decide)]
          rw [show (mshpOf 16).2.2.1 = 3 from rfl, this] at gc
          cases gc
      have hzb := szB_b hz
      have hS := h.s
      exact ⟨rfl, mop2, gb, gc, gm, cov_wr rfl rfl h.p.1 hS.1 t0 (by simp only; omega) (by simp only; omega) (by simp only; omega)⟩
  · rw [← h.cl]
    refine closed_ops (List.ext_getElem (by simp [hlen]) fun j h1 h2 => ?_)
    simp only [List.length_map] at h1 h2
    rw [List.getElem_map, List.getElem_map]
    rcases hc.2 j _ _ (List.getElem?_eq_getElem h2) (List.getElem?_eq_getElem h1) with e | ⟨ho, t, _, _, e⟩
    · rw [e]
    · rw [e, ho]
  · rw [hs]
    obtain ⟨x, hxm, rfl | ⟨ho, t, t0, t1, rfl⟩⟩ := hx y hy
    · exact h.call _ hxm h22
    · simp at h22
  · obtain ⟨x, hxm, rfl | ⟨ho, t, t0, t1, rfl⟩⟩ := hx y hy
    · exact h.imm _ hxm
    · exact h.imm x hxm
theorem draw_fg {F : Pg} {funcs most : Nat} {al : Int} {G : Tg} (h : PgGood funcs most F) (hf2 : funcs ≤ 80) (hm : most ≤ 100) (hal : powB al = true) (hv : StVar (F.map (lowF F al)) G) : G.length = F.length ∧ G.map Fm.params = F.map Fn.params ∧ ∀ q ∈ G, FG F.length al (F.map Fn.params) q := by
  have hlen : G.length = F.length := by rw [hv.1, List.length_map]
  have hat : ∀ (i : Nat) (q : Fm), G[i]? = some q → ∃ f, F[i]? = some f ∧ q.params = f.params ∧ FG F.length al (F.map Fn.params) q := fun i q hq => by
    have hi := (List.getElem?_eq_some_iff.1 hq).1
    have hfi := List.getElem?_eq_getElem (show i < F.length by omega)
    have h0 : (F.map (lowF F al))[i]? = some (lowF F al F[i]) := by rw [List.getElem?_map, hfi]; rfl
    obtain ⟨a1, a2, a3⟩ := hv.2 i _ q h0 hq
    exact ⟨F[i], hfi, a1, var_fg (low_fg h hf2 hm hal hfi) a1 a2 a3⟩
  refine ⟨hlen, List.ext_getElem? fun i => ?_, fun q hq => ?_⟩
  · rw [List.getElem?_map, List.getElem?_map]
    rcases hg : G[i]? with _ | q
    · have : F[i]? = none := List.getElem?_eq_none (by have := List.getElem?_eq_none_iff.1 hg; omega)
      rw [this]; rfl
    · obtain ⟨f, hf, hp, _⟩ := hat i q hg
      rw [hf]
      simp [hp]
  · obtain ⟨i, hi, rfl⟩ := List.mem_iff_getElem.1 hq
    exact (hat i _ (List.getElem?_eq_getElem hi)).choose_spec.2.2
theorem draw_zero {F : Pg} {funcs most : Nat} {al : Int} {G : Tg} (h : PgGood funcs most F) (hf2 : funcs ≤ 80) (hm : most ≤ 100) (hal : powB al = true) (h16 : 16 ≤ al) (hv : StVar (F.map (lowF F al)) G) : tgE al G = 0 := by
  obtain ⟨hlen, hps, hfg⟩ := draw_fg h hf2 hm hal hv
  obtain ⟨h80, ⟨f0, r0, hF0, hp0⟩, _⟩ := pgE_zero.1 h.err
  have hG1 : 0 < G.length := by rw [hlen, hF0]; simp
  have hq0 := List.getElem?_eq_getElem hG1
  have hpe : (G[0]).params = 0 := by
    have e := congrArg (fun l => l[0]?) hps
    simp only [List.getElem?_map] at e
    rw [hq0, hF0] at e
    simp at e
    rw [e]; exact hp0
  rw [tgE_rest (by omega) hq0 ⟨hal, h16⟩ hpe]
  have hf : firstE (G.map (fmE al G.length)) = 0 := firstE_zero.2 fun e he => by
    obtain ⟨q, hq, rfl⟩ := List.mem_map.1 he
    rw [hlen]
    exact fm_zero (hfg q hq) hal
  rw [if_neg (by rw [hf]; decide)]
  have hroom : G.all (roomB G) = true := List.all_eq_true.2 fun q hq => List.all_eq_true.2 fun x hx => by
    by_cases h22 : x.op = 22
    · have hc := (hfg q hq).call x hx h22
      rw [← hps, List.getElem?_map] at hc
      unfold callB
      rw [decide_eq_true h22, Bool.true_and, decide_eq_false (by omega)]
      rfl
    · exact callB_other h22
  rw [if_pos hroom]
/-- A drawn target and any bound can be written. -/
theorem draw_good {F : Pg} {funcs most : Nat} {al bd : Int} {G : Tg} (h : PgGood funcs most F) (hf2 : funcs ≤ 20) (hm : most ≤ 100) (hal : powB al = true) (h16 : 16 ≤ al) (hv : StVar (F.map (lowF F al)) G) (hb : bndB bd = true) : JGood al bd G := by
  have hz := draw_zero h (by omega) hm hal h16 hv
  obtain ⟨hlen, _, hfg⟩ := draw_fg h (by omega) hm hal hv
  have hI : ImmT G := fun q hq x hx => (hfg q hq).imm x hx
  have hW := tgW_of hz hb hI
  refine ⟨?_, hI⟩
  unfold encJE
  rw [if_neg (by rw [hz]; decide), if_neg (by rw [hb]; decide), if_neg ?_]
  obtain ⟨k, _, hk, rfl⟩ := hW.al
  have hbd := hW.b
  have hfr : ∀ q ∈ G, (frY ((2 : Int) ^ k) q).length ≤ 45000 := fun q hq => by
    have w := hW.f q hq
    have h1 := flat_le (f := minsY) q.code (fun x hx => minsY_len (w.cd x hx))
    have h2 := w.c
    have h3 := w.p
    have h4 := div_in (k := k) w.s
    have e1 := lenv10 (u := q.params.toNat) (by omega)
    have e2 := lenv10 (u := (q.size / (2 : Int) ^ k).toNat) (by omega)
    have e3 := lenv10 (u := q.code.length) (by omega)
    simp only [frY, List.length_append, digsI_length]
    have := Nat.mul_le_mul_right 41 h2
    omega
  have h1 := flat_le (f := frY ((2 : Int) ^ k)) G hfr
  have h2 : G.length ≤ 20 := by have := h.few; omega
  have e1 := lenv10 (u := k) (by omega)
  have e2 := lenv10 (u := bd.toNat) (by omega)
  have e3 := lenv10 (u := G.length) (by omega)
  have e4 : jmagic.length = 4 := rfl
  have := Nat.mul_le_mul_right 45000 h2
  rw [encJ_len]
  simp only [tgY, List.length_append, digsI_length, expo_pow]
  omega
end Go.Proofs.YtlkcjjalkdlicaaDoor
end

section
/-
  Chapter 11's awake; MachcodeDecodeInvertsEncode's law, walked. Conditions: those of the types; the table of TrailingZeros64 lies as it is laid.
-/
namespace Go.Proofs.YtlkcjjalkdlicaaDoor
open Go.RowKit

theorem jmod_nat (x : Int) (n : Nat) (w : World) (hn : 1 ≤ n) (hn2 : n ≤ 2000000) : Calls Tryd.prog 17 #[.int .i64 x, .int .i64 n] w fun e w' => (∃ i : Nat, i < n ∧ e = .returned (.int .i64 (i : Int))) ∧ w = w' :=
  (mod_any x n w (by omega) (by omega)).mono fun e w' ⟨he, hw⟩ => ⟨⟨(x % n).toNat, by have := Int.emod_lt_of_pos x (show (0 : Int) < n by omega); have := Int.emod_nonneg x (show (n : Int) ≠ 0 by omega); omega, by
    rw [he, Int.toNat_of_nonneg (Int.emod_nonneg x (by omega))]⟩, hw⟩
theorem jxor_byte (z y : Int) (z0 : 0 ≤ z) (z1 : z ≤ 255) (y0 : 0 ≤ y) (y1 : y ≤ 255) : 0 ≤ bits BinOp.xor IntKind.u8 z y ∧ bits BinOp.xor IntKind.u8 z y ≤ 255 ∧ (y ≠ 0 → bits BinOp.xor IntKind.u8 z y ≠ z) := by
  obtain ⟨a, rfl⟩ := Int.eq_ofNat_of_zero_le z0
  obtain ⟨b, rfl⟩ := Int.eq_ofNat_of_zero_le y0
  rw [u8_xor_nat a b (by omega) (by omega)]
  have hx : a ^^^ b < 2 ^ 8 := Nat.xor_lt_two_pow (by omega) (by omega)
  refine ⟨by omega, by omega, fun hne h => ?_⟩
  have h1 : a ^^^ b = a ^^^ 0 := by rw [Nat.xor_zero]; omega
  have := xor_inj' h1
  omega
def awT : Tg := [⟨0, 0, [⟨23, 0, 0, 0, 0⟩]⟩]
theorem awT_len : (encJ 16 0 awT).length = 15 := by
  rw [encJ_len]
  have e1 : lenv 4 = 1 := lenv_small (by omega)
  have e2 : lenv 0 = 1 := lenv_small (by omega)
  have e3 : lenv 1 = 1 := lenv_small (by omega)
  have e4 : expo 16 = 4 := expo_pow 4
  have e5 : (minsY ⟨23, 0, 0, 0, 0⟩).length = 1 := rfl
  simp only [tgY, awT, List.length_append, digsI_length, e4, frY, List.flatMap_cons, List.flatMap_nil, List.length_cons, List.length_nil, e5]
  rw [show ((0 : Int)).toNat = 0 from rfl, show ((0 : Int) / 16).toNat = 0 from rfl, e1, e2, e3]
  rfl
theorem awT_e : encJE 16 0 awT = 0 := by
  unfold encJE
  rw [if_neg (by decide), if_neg (by decide), if_neg (by rw [awT_len]; omega)]
theorem awT_i : ImmT awT := by
  intro f hf x hx
  simp [awT] at hf
  subst hf
  simp at hx
  subst hx
  exact ⟨Int.le_refl _, show (0 : Int) ≤ 18446744073709551615 by decide⟩

set_option maxRecDepth 100000 in
set_option maxHeartbeats 4000000 in
theorem awake11_any (w : World) (hTab : Hid (Tab w)) : Calls Tryd.prog 13 #[] w fun e w' => e = .returned (.bool true) ∧ Below w.heap.size w w' := by
  obtain ⟨W, hW⟩ : ∃ W, (w.alloc (.cells #[.int .i64 23, .int .i64 0, .int .i64 0, .int .i64 0, .int .u64 0] 65)).alloc (.cells #[.int .i64 0, .int .i64 0, .slice (some ⟨w.heap.size, 0, none⟩) 1 1] 83) = W := ⟨_, rfl⟩
  have HW := hide hW
  have hb := hide (show Below w.heap.size w W by rw [← hW]; exact below2 w _ _)
  have r0 := hide (show Row W w.heap.size 65 (icells [⟨23, 0, 0, 0, 0⟩]) by rw [← hW]; exact (Row.new w _ (icells [⟨23, 0, 0, 0, 0⟩])).alloc _)
  have r1 := hide (show Row W (w.heap.size + 1) 83 (fdcells [⟨0, 0, some ⟨w.heap.size, 0, none⟩, 1, 1⟩]) by rw [← hW]; exact (Row.new _ 83 [.int .i64 0, .int .i64 0, .slice (some ⟨w.heap.size, 0, none⟩) 1 1]).at_ (by simp))
  have HT := hide (show TgAt W 0 W.heap.size (some ⟨w.heap.size + 1, 0, none⟩) 1 1 [⟨0, 0, some ⟨w.heap.size, 0, none⟩, 1, 1⟩] awT from
    ⟨rfl, ⟨(fun e => by cases e), Nat.le_refl _, by omega⟩, Far.zero _, fun k u hu => ⟨w.heap.size + 1, 0, rfl, r1.out.lt, by rw [Nat.zero_add]; exact r1.out.cell hu⟩, ⟨rfl, fun j h f h1 h2 => by
      rcases j with _ | j
      · injection h1 with h1
        injection h2 with h2
        subst h1
        subst h2
        exact ⟨rfl, rfl, rfl, ⟨(fun e => by cases e), Nat.le_refl _, show (1 : Nat) ≤ 8796093022208 by omega⟩, Far.zero _, fun k u hu => ⟨w.heap.size, 0, rfl, r0.out.lt, by rw [Nat.zero_add]; exact r0.out.cell hu⟩⟩
      · simp at h1⟩⟩)
  have cc := jencode_any 16 0 (some ⟨w.heap.size + 1, 0, none⟩) 1 1 _ awT 0 W HT (hide awT_i) (hide (hTab.out.below hb.out))
  unfold JcPost at cc
  rw [awT_e] at cc
  clear hW
  go_enter Tryd.func13, Tryd.ntmps13
  go_wp2_with fail
  rw [HW.out]
  refine cc.mono ?_
  rintro e w2 ⟨A, n, c, rfl, h0, -, hb2⟩
  have hn : n = 15 := by rw [(h0 trivial).1, awT_len]
  subst hn
  have HB := hide (hb.out.trans (hb2.mono hb.out.size))
  clear h0 hb2 cc r0 r1 HW hb
  go_wp2_with fail
  go_ret
  exact ⟨rfl, HB.out⟩

set_option maxRecDepth 100000 in
set_option maxHeartbeats 8000000 in
theorem dieinv_walk (A0 : Option Addr) (n0 c0 : Nat) (zs0 : List Int) (bd at_ y : Int) (w : World)
    (hA : Hid (A0 = none → c0 = 0)) (hn : Hid (zs0.length = n0)) (hnc : n0 ≤ c0) (hm : n0 ≤ 9223372036854775807) (hs : Hid (Sees w w.heap.size A0 (cellsU8 zs0))) (hz : Hid (∀ z ∈ zs0, 0 ≤ z ∧ z ≤ 255)) (y0 : 0 ≤ y) (y1 : y ≤ 255) (hTab : Hid (Tab w)) :
    Calls Tryd.prog 6 #[.slice A0 n0 c0, .int .i64 bd, .int .i64 at_, .int .u8 y] w fun e w' => e = .returned (.bool true) ∧ Below w.heap.size w w' := by
  obtain ⟨i0, hi, hz0, hz1, hz2⟩ := info_parts Tryd.info5
  go_enter Tryd.func6, Tryd.ntmps6
  go_wp2_with fail
  refine (awake11_any w hTab).mono ?_
  rintro e w1 ⟨rfl, hb1⟩
  have HB1 := hide hb1
  have HT1 := hide (hTab.out.below hb1)
  have cn := new_any A0 n0 c0 zs0 300 w1 hA hn hnc hm (by omega) (hide ((hs.out.below hb1).more hb1.size)) hz
  rw [show ((300 : Nat) : Int) = 300 from rfl] at cn
  clear hb1 hs hA hn hz
  go_wp2_with fail
  refine cn.mono ?_
  rintro e w2 ⟨rfl, hC2, hb2⟩
  obtain ⟨g, hg⟩ : ∃ g, w1.heap.size = g := ⟨_, rfl⟩
  have HB2 := hide (below_call HB1.out hb2)
  have HT2 := hide (HT1.out.below hb2)
  have hwg : w.heap.size ≤ g := by rw [← hg]; exact HB1.out.size
  rw [hg] at hC2 ⊢
  have hgl := hC2.lt
  have cd := dtx_any g 5 12 w2 (hide hC2) (by omega) (by omega) (by omega)
  rw [show ((5 : Nat) : Int) = 5 from rfl, show ((12 : Nat) : Int) = 12 from rfl] at cd
  clear hb2 cn hg hC2
  go_wp2_with fail
  refine cd.mono ?_
  rintro e w3 ⟨F, A, n, c, hh, G, rfl, htg, hn1, hn2, hFl, hgd, hap, h16, hsv, -, hG3⟩
  obtain ⟨N, hN⟩ : ∃ N, bd % 2147483647 = N := ⟨_, rfl⟩
  have hNb : 0 ≤ N ∧ N < 2147483647 := by rw [← hN]; exact ⟨Int.emod_nonneg _ (by decide), Int.emod_lt_of_pos _ (by decide)⟩
  have hgood := draw_good (bd := N) hgd (by omega) (by omega) hap h16 hsv (bndB_iff.2 (by omega))
  obtain ⟨al, hal⟩ : ∃ a, alP F n = a := ⟨_, rfl⟩
  rw [hal] at hgood ⊢
  obtain ⟨P, hP⟩ : ∃ P, w3.heap.size = P := ⟨_, rfl⟩
  obtain ⟨W4, hW4⟩ : ∃ V, w3.alloc (.cells #[.int .i64 al, .slice A n c] 47) = V := ⟨_, rfl⟩
  have HW4 := hide hW4
  have HPP := hide hP
  have hb3 : Below w.heap.size w w3 := below_grown HB2.out hG3 hwg HB2.out.size
  have h34 : Below w3.heap.size w3 W4 := by rw [← hW4]; exact below1 w3 _
  have B4 := hide (below_call hb3 h34)
  have R4 := hide (show Row W4 P 47 [.int .i64 al, .slice A n c] by rw [← hW4, ← hP]; exact Row.new w3 _ _)
  have G4 := hide (htg.call h34)
  have HT4 := hide (show Tab W4 from hTab.out.below B4.out)
  have HGD := hide hgood
  clear hal hP hW4 hb3 h34 htg hG3 hgd hap h16 hsv hgood cd HB2 HT2 HB1 HT1
  go_upto_region 4 with (fail)
  rw [HW4.out, HPP.out]
  clear HW4 HPP
  have cm := mod_any bd 2147483647 W4 (by omega) (by omega)
  rw [hN] at cm
  clear hN
  go_wp2_with fail
  refine cm.mono ?_
  rintro e w' ⟨rfl, rfl⟩
  have p0 := R4.out.cell (k := 0) rfl
  have p1 := R4.out.cell (k := 1) rfl
  have ce := jencode_any al N A n c hh G _ W4 G4 (hide HGD.out.i) HT4
  unfold JcPost at ce
  rw [HGD.out.e] at ce
  clear cm
  go_wp2_with fail
  refine ce.mono ?_
  rintro e w5 ⟨A5, n5, c5, rfl, h0, -, hb5⟩
  obtain ⟨hn5, ho5⟩ := h0 trivial
  have hlen := encJ_len al N G
  have h7 := tgY_len al N G
  have hmx := HGD.out.parts.2.2.1
  have HBY := hide (tgY_byt HGD.out.parts.2.2.2)
  have HBZ := hide (show Byt (encJ al N G) from HBY.out.app (crcI_bytes _))
  have HJD := hide (JDec.good (zs := encJ al N G) (by omega) (by omega) HGD.out rfl)
  obtain ⟨ys, hys⟩ : ∃ ys, encJ al N G = ys := ⟨_, rfl⟩
  have HYS := hide hys
  rw [hys] at hn5 ho5 hlen hmx HJD HBZ
  have D5 := hide (BsAt.own ho5 HBZ.out)
  have B5 := hide (below_call B4.out hb5)
  have R5 := hide (R4.out.call hb5)
  have G5 := hide (G4.out.call hb5)
  have HT5 := hide (HT4.out.below hb5)
  have hn5a : n5 ≤ 1048576 := by omega
  have hn5b : 11 ≤ n5 := by omega
  have HN5 := hide hn5
  have cD := jdecode_any A5 n5 c5 ys w5 (by omega) D5 HT5
  clear h0 ho5 hb5 hn5 p0 p1 ce hys hlen hmx h7
  go_wp2_with fail
  refine cD.mono ?_
  rintro e w6 ⟨er, Al6, bd6, F6, A6, n6, c6, hs6, rfl, hjd, hp6, -, hb6⟩
  obtain ⟨rfl, rfl, rfl, rfl⟩ := HJD.out.unique hjd
  obtain ⟨Q, hQ⟩ : ∃ Q, w6.heap.size = Q := ⟨_, rfl⟩
  obtain ⟨W7, hW7⟩ : ∃ W7, w6.alloc (.cells #[.int .i64 al, .slice A6 n6 c6] 47) = W7 := ⟨_, rfl⟩
  have HW7 := hide hW7
  have HQQ := hide hQ
  have B6 := hide (below_call B5.out hb6)
  have h67 : Below w6.heap.size w6 W7 := by rw [← hW7]; exact below1 w6 _
  have B7 := hide (below_call B6.out h67)
  have R7 := hide ((R5.out.call hb6).call h67)
  have Q7 := hide (show Row W7 Q 47 [.int .i64 al, .slice A6 n6 c6] by rw [← hW7, ← hQ]; exact Row.new w6 _ _)
  have G7 := hide ((G5.out.call hb6).call h67)
  have H7 := hide (hp6.call h67)
  have D7 := hide ((D5.out.call hb6).call h67)
  have p0 := R7.out.cell (k := 0) rfl
  have p1 := R7.out.cell (k := 1) rfl
  have q0 := Q7.out.cell (k := 0) rfl
  have q1 := Q7.out.cell (k := 1) rfl
  have hn0 : ((n5 : Int) == 0) = false := by rw [beq_eq_false_iff_ne]; omega
  have cS := rsame10_any al A n c hh G al A6 n6 c6 hs6 G _ _ W7.heap.size W7.heap.size W7 G7 H7 (Nat.le_refl _) (Nat.le_refl _)
  rw [decide_eq_true (show al = al ∧ G = G from ⟨rfl, rfl⟩)] at cS
  clear hp6 hb6 hQ hW7 cD h67 hjd
  go_upto_region 7 with (fail)
  rw [HW7.out, HQQ.out]
  clear HW7 HQQ
  go_wp2_with fail
  refine cS.mono ?_
  rintro e w8 ⟨rfl, hb8⟩
  have B8 := hide (below_call B7.out hb8)
  have D8 := hide (D7.out.call hb8)
  clear hb8 cS p0 p1 q0 q1
  go_wp2_with (at_builtin; refine wpList_append_seesN rfl (.const (.slice none 0 0)) (.tmp 61) 22 rfl w8.heap.size 5 i0 (.int .u8 0) 1 1 Tryd.underlying22 hi hz0 hz1 hz2 rfl (by decide) (.slice none 0 0) 0 [] rfl (World.ownsRow_nil _ _ _ _) w8.heap.size A5 n5 c5 (cellsU8 ys) rfl (hide D8.out.nil_) (hide (by have := D8.out.len; simp [cellsU8]; omega)) (hide D8.out.see) (hide D8.out.nc) (one_u8 _) (by unfold maxLen; omega) (by omega) (Nat.le_refl _) ?_)
  intro v9 w9 ho0 hg9
  have ho9 : w9.ownsRow w8.heap.size 5 1 v9 n5 (cellsU8 ys) := by simpa using ho0
  have B9 := hide (below_call B8.out ((Below.refl w8.heap.size w8).grown hg9 (Nat.le_refl _) (fun k hk => by cases hk)))
  obtain ⟨gr, c9, rfl, hg8, hg9', -, -⟩ := own_block ho9 (by omega)
  have O9 := hide ho9
  clear ho0 hg9 ho9
  go_wp2_with fail
  refine (jmod_nat at_ n5 _ (by omega) (by omega)).mono ?_
  rintro e w' ⟨⟨i, hin, rfl⟩, rfl⟩
  have hil : i < ys.length := by have := HN5.out; omega
  have hzi := hide (List.getElem?_eq_getElem hil)
  obtain ⟨z, hzz⟩ : ∃ z, ys[i] = z := ⟨_, rfl⟩
  have hzb := HBZ.out z (by rw [← hzz]; exact List.getElem_mem _)
  rw [hzz] at hzi
  have hc : w9.cell? ⟨gr, i, none⟩ = some (.int .u8 z) := by rw [O9.out.cellAt i (by omega)]; simp [cellsU8, hzi.out]
  have hf : w9.frozen? ⟨gr, i, none⟩ = false := O9.out.frozenAt i
  have hiz : (0 : Int) ≤ (i : Int) := by omega
  have hiz2 : (i : Int) < (n5 : Int) := by omega
  have hx8 := jxor_byte z (max y 1) hzb.1 hzb.2 (by omega) (by omega)
  obtain ⟨z', hz'⟩ : ∃ z', bits BinOp.xor IntKind.u8 z (max y 1) = z' := ⟨_, rfl⟩
  rw [hz'] at hx8
  have HX8 := hide hx8
  have HZ' := hide hz'
  obtain ⟨W10, hW10⟩ : ∃ W10, w9.setCell ⟨gr, i, none⟩ (.int .u8 z') = W10 := ⟨_, rfl⟩
  have O10 := hide (show W10.ownsRow w8.heap.size 5 1 (.slice (some ⟨gr, 0, none⟩) n5 c9) n5 (cellsU8 (ys.set i z')) by
    have := (O9.out.stored i (.int .u8 z')).1
    rw [hW10] at this
    rwa [show (cellsU8 ys).set i (.int .u8 z') = cellsU8 (ys.set i z') by simp [cellsU8, List.map_set]] at this)
  have B10 := hide (show Below w.heap.size w W10 by rw [← hW10]; exact B9.out.setCell (p := ⟨gr, i, none⟩) (by have := B8.out.size; simp; omega) _)
  have D10 := hide (BsAt.own O10.out (HBZ.out.set i HX8.out.1 HX8.out.2.1))
  have HNO := hide (show ∀ (er a b : Int) (T : Tg), JDec (ys.set i z') er a b T → er = 2 from fun er a b T h => by
    have hl : (ys.set i z').length = n5 := by rw [List.length_set]; exact HN5.out.symm
    unfold JDec at h
    rw [if_neg (by omega), if_neg (by omega)] at h
    rcases h with ⟨_, _, he⟩ | ⟨h2, _⟩
    · exfalso
      have hq := hzi.out
      rw [← HYS.out] at hq he
      exact jturned HBY.out i hq HX8.out.1 HX8.out.2.1 (HX8.out.2.2 (by omega)) (tgY a b T) he
    · exact h2)
  have cD := jdecode_any (some ⟨gr, 0, none⟩) n5 c9 (ys.set i z') W10 (by omega) D10 (hide (hTab.out.below B10.out))
  have HW10 := hide hW10
  clear hzz hx8 hz' hW10 hzb
  go_upto_region 11 with (fail)
  rw [HZ'.out, HW10.out]
  clear hc hf HZ' HW10
  go_wp2_with fail
  refine cD.mono ?_
  rintro e w11 ⟨er, Al11, bd11, F11, A11, n11, c11, hs11, rfl, hjd, -, -, hb11⟩
  obtain rfl := HNO.out _ _ _ _ hjd
  have B11 := hide ((below_call B10.out hb11))
  have B12 := hide (B11.out.alloc B11.out.size (.cells #[.int .i64 Al11, .slice A11 n11 c11] 47))
  clear hb11 cD hjd HNO
  go_wp2_with fail
  go_ret
  exact ⟨rfl, B12.out⟩
end Go.Proofs.YtlkcjjalkdlicaaDoor
end

section
/-
  The walk of the law that Encode inverts Decode (chapter 11). Conditions: those of the types; the table of TrailingZeros64 lies as it is laid.
-/
namespace Go.Proofs.YtlkcjjalkdlicaaDoor
open Go.RowKit

theorem jdec_ok {zs : List Int} {Al b : Int} {F : Tg} (h : JDec zs 0 Al b F) : JGood Al b F ∧ encJ Al b F = zs := by
  unfold JDec at h
  by_cases h1 : 1048576 < zs.length
  · rw [if_pos h1] at h
    exact absurd h.1 (by decide)
  · rw [if_neg h1] at h
    by_cases h2 : zs.length < 10
    · rw [if_pos h2] at h
      exact absurd h.1 (by decide)
    · rw [if_neg h2] at h
      rcases h with h | h
      · exact ⟨h.2.1, h.2.2⟩
      · exact absurd h.1 (by decide)
theorem jmend_len {zs : List Int} : (jmend zs).length = zs.length := by
  unfold jmend
  split
  · rfl
  · rename_i h
    show (zs.take (zs.length - 4) ++ crcI (crcN (zs.take (zs.length - 4)))).length = zs.length
    rw [List.length_append, List.length_take, show (crcI (crcN (zs.take (zs.length - 4)))).length = 4 from rfl]
    omega

set_option maxRecDepth 100000 in
set_option maxHeartbeats 4000000 in
theorem jeinv_walk (A1 : Option Addr) (n1 c1 : Nat) (bs : List Int) (A0 : Option Addr) (n0 c0 : Nat) (zs : List Int) (x y : Int) (w : World) (h' : Hid (BsAt w w.heap.size A1 n1 c1 bs)) (h : Hid (BsAt w w.heap.size A0 n0 c0 zs)) (y0 : 0 ≤ y) (y1 : y ≤ 255) (hT : Hid (Tab w)) :
    Calls Tryd.prog 7 #[.slice A1 n1 c1, .slice A0 n0 c0, .int .i64 x, .int .u8 y] w fun e w' => e = .returned (.bool true) ∧ Below w.heap.size w w' := by
  by_cases h500 : 500 < n1
  · have hz : (500 : Int) < (n1 : Int) := by omega
    go_enter Tryd.func7, Tryd.ntmps7
    go_wp2_with fail
    refine (awake11_any w hT).mono ?_
    rintro e w1 ⟨rfl, hb1⟩
    have B1 := hide hb1
    clear hb1
    go_wp2_with fail
    go_ret
    exact ⟨rfl, B1.out⟩
  · have hz : ¬ ((500 : Int) < (n1 : Int)) := by omega
    have H500 := hide h500
    obtain ⟨i0, hi, hz0, hz1, hz2⟩ := info_parts Tryd.info5
    clear h500
    go_enter Tryd.func7, Tryd.ntmps7
    go_wp2_with fail
    refine (awake11_any w hT).mono ?_
    rintro e w1 ⟨rfl, hb1⟩
    have B1 := hide hb1
    have C1 := hide (h.out.call hb1)
    clear hb1
    go_wp2_with fail
    refine (new_any A0 n0 c0 zs 250 w1 (hide C1.out.nil_) (hide C1.out.len) C1.out.nc (by have := C1.out.cm; have := C1.out.nc; omega) (by omega) (hide C1.out.see) (hide C1.out.byt)).mono ?_
    rintro e w2 ⟨rfl, hC2, hb2⟩
    have HC2 := hide hC2
    have B2 := hide (below_call B1.out hb2)
    have hg2 : w1.heap.size < w2.heap.size := hC2.lt
    have hgw : w.heap.size ≤ w1.heap.size := B1.out.size
    clear hC2 hb2
    go_wp2_with fail
    refine (dtx_any w1.heap.size 3 8 w2 HC2 (by omega) (by omega) (by omega)).mono ?_
    rintro e w3 ⟨FP, AP, nP, cP, hsP, G, rfl, htg, hnp1, hnp2, hFl, hgd, hap, h16, hsv, -, hG3⟩
    have hgood := draw_good (bd := 160) hgd (by omega) (by omega) hap h16 hsv (bndB_iff.2 (by omega))
    obtain ⟨al, hal⟩ : ∃ a, alP FP nP = a := ⟨_, rfl⟩
    rw [hal] at hgood ⊢
    have HGD := hide hgood
    have B3 := hide (below_inner B2.out hG3 (by omega))
    have G3 := hide htg
    have cR := rencode_any al 160 AP nP cP hsP G w2.heap.size w3 G3 (hide HGD.out.i)
    unfold JcPost at cR
    rw [HGD.out.e] at cR
    clear htg hgd hG3 hap h16 hsv hgood hal
    go_wp2_with fail
    refine cR.mono ?_
    rintro e w5 ⟨A5, n5, c5, rfl, h0, -, hb5⟩
    obtain ⟨hn5', ho5⟩ := h0 trivial
    have hlen := encJ_len al 160 G
    have h7 := tgY_len al 160 G
    have hmx := HGD.out.parts.2.2.1
    have hYB : Byt (encJ al 160 G) := (tgY_byt HGD.out.parts.2.2.2).app (crcI_bytes _)
    obtain ⟨Y, hY⟩ : ∃ Y, encJ al 160 G = Y := ⟨_, rfl⟩
    rw [hY] at hn5' ho5 hlen hmx hYB
    have hn5 : Y.length = n5 := hn5'.symm
    have HYB := hide hYB
    have D5 := hide (BsAt.own ho5 hYB)
    have B5 := hide (below_call B3.out hb5)
    have E5 := hide (h'.out.call B5.out)
    have hn5a : n5 ≤ 1048576 := by omega
    have hn5b : 11 ≤ n5 := by omega
    have HN5 := hide hn5
    clear ho5 hb5 hn5 hn5' h0 hlen h7 hmx hYB hY cR
    go_wp2_with (at_builtin; refine wpList_append_seesN rfl (.const (.slice none 0 0)) (.tmp 36) 22 rfl w5.heap.size 5 i0 (.int .u8 0) 1 1 Tryd.underlying22 hi hz0 hz1 hz2 rfl (by decide) (.slice none 0 0) 0 [] rfl (World.ownsRow_nil _ _ _ _) w5.heap.size A5 n5 c5 (cellsU8 Y) rfl (hide D5.out.nil_) (hide (by have := D5.out.len; simp [cellsU8]; omega)) (hide D5.out.see) (hide D5.out.nc) (one_u8 _) (by unfold maxLen; omega) (by omega) (Nat.le_refl _) ?_)
    intro v9 w9 ho0 hg9
    have ho9 : w9.ownsRow w5.heap.size 5 1 v9 n5 (cellsU8 Y) := by simpa using ho0
    have b9 : Below w5.heap.size w5 w9 := (Below.refl w5.heap.size w5).grown hg9 (Nat.le_refl _) (fun k hk => by cases hk)
    have B9 := hide (below_call B5.out b9)
    have b9s := b9.size
    have D9 := hide (D5.out.below b9)
    have E9 := hide (E5.out.below b9)
    obtain ⟨g, c9, rfl, hg8, hg9', -, -⟩ := own_block ho9 (by omega)
    have O9 := hide ho9
    clear ho0 hg9 ho9 b9 D5 E5
    go_wp2_with fail
    refine (jmod_nat x n5 _ (by omega) (by omega)).mono ?_
    rintro e w' ⟨⟨i, hin, rfl⟩, rfl⟩
    have hil : i < Y.length := by rw [HN5.out]; exact hin
    have hzi := hide (List.getElem?_eq_getElem hil)
    obtain ⟨z, hzz⟩ : ∃ z, Y[i] = z := ⟨_, rfl⟩
    have hzb := HYB.out z (by rw [← hzz]; exact List.getElem_mem _)
    rw [hzz] at hzi
    have hc : w9.cell? ⟨g, i, none⟩ = some (.int .u8 z) := by rw [O9.out.cellAt i (by omega)]; simp [cellsU8, hzi.out]
    have hf : w9.frozen? ⟨g, i, none⟩ = false := O9.out.frozenAt i
    have hiz : (0 : Int) ≤ (i : Int) := by omega
    have hiz2 : (i : Int) < (n5 : Int) := by omega
    have hx8 := jxor_byte z y hzb.1 hzb.2 y0 y1
    obtain ⟨z', hz'⟩ : ∃ z', bits BinOp.xor IntKind.u8 z y = z' := ⟨_, rfl⟩
    rw [hz'] at hx8
    have HX8 := hide hx8
    have HZ' := hide hz'
    obtain ⟨W10, hW10⟩ : ∃ W10, w9.setCell ⟨g, i, none⟩ (.int .u8 z') = W10 := ⟨_, rfl⟩
    have O10 := hide (show W10.ownsRow w5.heap.size 5 1 (.slice (some ⟨g, 0, none⟩) n5 c9) n5 (cellsU8 (Y.set i z')) by
      have := (O9.out.stored i (.int .u8 z')).1
      rw [hW10] at this
      rwa [show (cellsU8 Y).set i (.int .u8 z') = cellsU8 (Y.set i z') by simp [cellsU8, List.map_set]] at this)
    have b10 : Below w5.heap.size w9 W10 := by rw [← hW10]; exact (Below.refl w5.heap.size w9).setCell (p := ⟨g, i, none⟩) (by simp; omega) _
    have B10 := hide (show Below w.heap.size w W10 by rw [← hW10]; exact B9.out.setCell (p := ⟨g, i, none⟩) (by have := B5.out.size; simp; omega) _)
    have D10 := hide (BsAt.own O10.out (HYB.out.set i HX8.out.1 HX8.out.2.1))
    have hs10 : w5.heap.size ≤ W10.heap.size := Nat.le_trans b9s b10.size
    have P10 := hide ((D9.out.below b10).more hs10)
    have E10 := hide ((E9.out.below b10).more hs10)
    have HW10 := hide hW10
    clear hzz hx8 hz' hW10 hzb b10 hs10 D9 E9
    go_upto_region 6 with (fail)
    rw [HZ'.out, HW10.out]
    clear hc hf HZ' HW10
    go_wp2_with fail
    refine (jmended_any (some ⟨g, 0, none⟩) n5 c9 (Y.set i z') W10 D10 (by omega)).mono ?_
    rintro e w6 ⟨A6, n6, c6, rfl, hm6, hb6⟩
    have B6 := hide (below_call B10.out hb6)
    have P6 := hide (P10.out.call hb6)
    have E6 := hide (E10.out.call hb6)
    have M6 := hide hm6
    have kc := Joins.run_convert_bytes_const_at (P := Tryd.prog) w6 22 5 #[.int .u8 70, .int .u8 82, .int .u8 77, .int .u8 49] 4 4 w6.heap.size rfl Tryd.underlying22 Tryd.underlying5
    obtain ⟨wm, hwm⟩ : ∃ wm, w6.alloc (.cells #[.int .u8 70, .int .u8 82, .int .u8 77, .int .u8 49] 5 ((#[.int .u8 70, .int .u8 82, .int .u8 77, .int .u8 49] : Array Value).size, (#[.int .u8 70, .int .u8 82, .int .u8 77, .int .u8 49] : Array Value).size + 1)) = wm := ⟨_, rfl⟩
    rw [hwm] at kc
    have hsm := hide (show Sees wm (w6.heap.size + 1) (some ⟨w6.heap.size, 0, none⟩) (cellsU8 jmagic) from fun k u hu => ⟨w6.heap.size, 0, rfl, by omega, by
      rw [← hwm, Nat.zero_add, Joins.cell_alloc_mark_at _ _ _ _ _ _ rfl]
      rw [← hu]
      simp [cellsU8, jmagic]⟩)
    have bm : Below w6.heap.size w6 wm := by rw [← hwm]; exact below1 w6 _
    have hwms : w6.heap.size + 1 ≤ wm.heap.size := by rw [← hwm]; simp
    have Bm := hide (below_call B6.out bm)
    have Pm := hide (P6.out.call bm)
    have Em := hide (E6.out.call bm)
    have Mm := hide (M6.out.call bm)
    have hn1m : n1 ≤ 1048576 := by have := H500.out; omega
    clear hm6 hb6 hwm bm P6 E6 M6
    go_wp2_with (at_builtin; refine wpList_append_lit rfl (.tmp 53) (.tmp 54) 22 rfl i0 Tryd.underlying22 hi hz0 hz1 hz2 w6.heap.size 4 jmagic (w6.heap.size + 1) rfl hwms rfl hsm (by omega) A1 n1 c1 bs rfl Em hn1m ?_)
    intro v7 w7 hx7 hb7
    have X7 := hide hx7
    have B7 := hide (below_call Bm.out hb7)
    have P7 := hide (Pm.out.below hb7)
    have E7 := hide (Em.out.below hb7)
    have M7 := hide (Mm.out.below hb7)
    have hs7 := hb7.size
    clear hx7 hb7 kc Pm Em Mm hsm
    obtain ⟨W8, hW8⟩ : ∃ W8, w7.alloc (.cells #[.int .u8 0, .int .u8 0, .int .u8 0, .int .u8 0] 5) = W8 := ⟨_, rfl⟩
    obtain ⟨gz, hgz⟩ : ∃ gz, w7.heap.size = gz := ⟨_, rfl⟩
    have b8 : Below w7.heap.size w7 W8 := by rw [← hW8]; exact below1 w7 _
    have RZ8 := show Row W8 gz 5 [.int .u8 0, .int .u8 0, .int .u8 0, .int .u8 0] by rw [← hW8, ← hgz]; exact Row.new w7 5 [.int .u8 0, .int .u8 0, .int .u8 0, .int .u8 0]
    have Z8 := hide (show ∀ (j : Nat) (u : Value), (cellsU8 [0, 0, 0, 0])[j]? = some u → W8.cell? ⟨gz, j, none⟩ = some u from fun j u hu => RZ8.cell (k := j) hu)
    have X8 := hide (show Ext wm.heap.size W8 v7 (4 + n1) (jmagic ++ bs) by rw [← hW8]; exact X7.out.alloc _)
    have hs8 : wm.heap.size ≤ W8.heap.size := Nat.le_trans hs7 b8.size
    have B8 := hide (below_call B7.out b8)
    have P8 := hide (P7.out.below (b8.mono hs7))
    have E8 := hide (E7.out.below (b8.mono hs7))
    have M8 := hide (M7.out.below (b8.mono hs7))
    have HW8 := hide hW8
    have HGZ := hide hgz
    clear hW8 hgz RZ8 P7 E7 M7 X7 b8
    go_wp2_with (at_builtin; rw [HW8.out, HGZ.out]; refine wpList_append_ext rfl (.tmp 55) (.tmp 56) 22 rfl i0 Tryd.underlying22 hi hz0 hz1 hz2 wm.heap.size (4 + n1) v7 (jmagic ++ bs) rfl X8 hs8 (by omega) gz 4 4 [0, 0, 0, 0] rfl rfl (by omega) Z8 ?_)
    intro v11 w11 ho11 hb11
    have hs11 : wm.heap.size ≤ w11.heap.size := Nat.le_trans hs8 hb11.size
    have hbz : Byt ((jmagic ++ bs) ++ [0, 0, 0, 0]) := ((show Byt jmagic from fun z hz => by simp [jmagic] at hz; omega).app h'.out.byt).app (show Byt [0, 0, 0, 0] from fun z hz => by simp at hz; omega)
    obtain ⟨A11, c11, rfl, -, -, -, -⟩ := own_seen ho11
    have D11 := hide (BsAt.own ho11 hbz)
    have B11 := hide (B8.out.trans (hb11.mono Bm.out.size))
    have P11 := hide ((P8.out.below hb11).more hs11)
    have E11 := hide ((E8.out.below hb11).more hs11)
    have M11 := hide ((M8.out.below hb11).more hs11)
    clear ho11 hb11 P8 E8 M8 X8 Z8 hbz HW8 HGZ
    go_wp2_with fail
    refine (jmended_any A11 (4 + n1 + 4) c11 ((jmagic ++ bs) ++ [0, 0, 0, 0]) w11 D11 (by omega)).mono ?_
    rintro e w12 ⟨A12, n12, c12, rfl, hm12, hb12⟩
    have B12 := hide (below_call B11.out hb12)
    have P12 := hide (P11.out.call hb12)
    have E12 := hide (E11.out.call hb12)
    have M12 := hide (M11.out.call hb12)
    obtain ⟨Z, hZ⟩ : ∃ Z, w12.heap.size = Z := ⟨_, rfl⟩
    obtain ⟨wl, hwl⟩ : ∃ wl, w12.alloc (.cells #[.slice A1 n1 c1, .slice A5 n5 c5, .slice A6 n6 c6, .slice A12 n12 c12] 22) = wl := ⟨_, rfl⟩
    have BL := hide (show Below w.heap.size w wl by rw [← hwl]; exact B12.out.alloc B12.out.size _)
    have RZ := hide (show Row wl Z 22 [.slice A1 n1 c1, .slice A5 n5 c5, .slice A6 n6 c6, .slice A12 n12 c12] by rw [← hwl, ← hZ]; exact Row.new w12 22 [.slice A1 n1 c1, .slice A5 n5 c5, .slice A6 n6 c6, .slice A12 n12 c12])
    have SLS := hide (fun (k : Nat) (hk : k < 4) => (show ∃ (A : Option Addr) (n c : Nat) (ys : List Int), wl.cell? ⟨Z, k, none⟩ = some (.slice A n c) ∧ BsAt wl wl.heap.size A n c ys from by
      rcases (show k = 0 ∨ k = 1 ∨ k = 2 ∨ k = 3 by omega) with rfl | rfl | rfl | rfl
      · exact ⟨_, _, _, _, RZ.out.cell (k := 0) rfl, by rw [← hwl]; exact E12.out.call (below1 w12 _)⟩
      · exact ⟨_, _, _, _, RZ.out.cell (k := 1) rfl, by rw [← hwl]; exact P12.out.call (below1 w12 _)⟩
      · exact ⟨_, _, _, _, RZ.out.cell (k := 2) rfl, by rw [← hwl]; exact M12.out.call (below1 w12 _)⟩
      · exact ⟨_, _, _, _, RZ.out.cell (k := 3) rfl, by rw [← hwl]; exact hm12.call (below1 w12 _)⟩))
    have HNM := hide (show ∀ (k : Nat), k < 4 → ∀ (A : Option Addr) (n c : Nat), wl.cell? ⟨Z, k, none⟩ = some (.slice A n c) → n ≤ 4611686018427387904 from by
      have l6 : n6 = n5 := by have h1 := M12.out.len; have h2 := jmend_len (zs := Y.set i z'); rw [List.length_set, HN5.out] at h2; omega
      have l12 : n12 = 4 + n1 + 4 := by have h1 := hm12.len; have h2 := jmend_len (zs := (jmagic ++ bs) ++ [0, 0, 0, 0]); have h3 := E12.out.len; rw [List.length_append, List.length_append, h3] at h2; have h4 : jmagic.length = 4 := rfl; have h5 : ([0, 0, 0, 0] : List Int).length = 4 := rfl; omega
      intro k hk A n c hc
      rcases (show k = 0 ∨ k = 1 ∨ k = 2 ∨ k = 3 by omega) with rfl | rfl | rfl | rfl
      · rw [RZ.out.cell (k := 0) rfl] at hc; injection hc with hc; injection hc with _ hc _; omega
      · rw [RZ.out.cell (k := 1) rfl] at hc; injection hc with hc; injection hc with _ hc _; omega
      · rw [RZ.out.cell (k := 2) rfl] at hc; injection hc with hc; injection hc with _ hc _; omega
      · rw [RZ.out.cell (k := 3) rfl] at hc; injection hc with hc; injection hc with _ hc _; omega)
    have HWL := hide hwl
    have HZ := hide hZ
    clear hm12 hb12 hwl hZ P12 E12 M12 P11 E11 M11
    go_upto_region 7 with (fail)
    rw [HWL.out, HZ.out]
    clear HWL HZ
    go_loopw [13, 14, 15, 16, 17, 18, 61] (fun _ _ _ _ _ _ iv wr => ∃ i : Nat, i ≤ 4 ∧ iv = .int .i64 (i : Int) ∧ Hid (Below wl.heap.size wl wr)) (fun _ _ _ _ _ _ iv _ => 4 - (intOf iv).toNat)
    case atStart => exact ⟨0, by omega, rfl, hide (Below.refl _ _)⟩
    case round =>
      obtain ⟨i, hi4, rfl, hbr⟩ := hrel
      by_cases hlt : i < 4
      · have hiz : (0 : Int) ≤ (i : Int) := by omega
        have hiz2 : (i : Int) < 4 := by omega
        obtain ⟨A, n, c, ys, hcell, hbs⟩ := SLS.out i hlt
        have z0 := keep_cellB hbr.out hcell
        have HBS := hide (hbs.call hbr.out)
        have BW := hide (BL.out.trans (hbr.out.mono BL.out.size))
        have hnm : n ≤ 4611686018427387904 := HNM.out i hlt A n c hcell
        clear hcell hbs
        have cD := jdecode_any A n c ys wr hnm HBS (hide (hT.out.below BW.out))
        go_wp2_with fail
        refine cD.mono ?_
        rintro e wd ⟨er, Al, bd, F6, A7, n7, c7, hs7', rfl, hjd, hp7, him, hb7⟩
        have HJD := hide hjd
        have HI7 := hide him
        obtain ⟨Q, hQ⟩ : ∃ Q, wd.heap.size = Q := ⟨_, rfl⟩
        obtain ⟨W7, hW7⟩ : ∃ W7, wd.alloc (.cells #[.int .i64 Al, .slice A7 n7 c7] 47) = W7 := ⟨_, rfl⟩
        have HW7 := hide hW7
        have HQQ := hide hQ
        have B7' := hide (show Below wl.heap.size wl W7 by rw [← hW7]; exact (hbr.out.trans (hb7.mono hbr.out.size)).alloc (Nat.le_trans hbr.out.size hb7.size) _)
        have BW7 := hide (BL.out.trans (B7'.out.mono BL.out.size))
        have Q7 := hide (show Row W7 Q 47 [.int .i64 Al, .slice A7 n7 c7] by rw [← hW7, ← hQ]; exact Row.new wd 47 [.int .i64 Al, .slice A7 n7 c7])
        have G7 := hide (show TgAt W7 wr.heap.size W7.heap.size A7 n7 c7 hs7' F6 by rw [← hW7]; exact hp7.call (below1 wd _))
        have S7 := hide (show BsAt W7 W7.heap.size A n c ys by rw [← hW7]; exact (HBS.out.call hb7).call (below1 wd _))
        have q7 := Q7.out.cell (k := 0) rfl
        have q8 := Q7.out.cell (k := 1) rfl
        clear hp7 hb7 hQ hW7 cD z0 HBS hjd him
        go_upto_region 10 with (fail)
        rw [HW7.out, HQQ.out]
        clear HW7 HQQ
        by_cases hx0 : er = 0
        · subst hx0
          obtain ⟨hgo, he⟩ := jdec_ok HJD.out
          have HGO := hide hgo
          have HE6 := hide he
          have HLY := hide S7.out.len
          have cE := jencode_any Al bd A7 n7 c7 hs7' F6 wr.heap.size W7 G7 HI7 (hide (hT.out.below BW7.out))
          unfold JcPost at cE
          rw [hgo.e, he] at cE
          clear hgo he
          go_wp2_with fail
          refine cE.mono ?_
          rintro e w8 ⟨A8, n8, c8, rfl, h0, -, hb8⟩
          obtain ⟨hn8, ho8⟩ := h0 trivial
          have B8' := hide (B7'.out.trans (hb8.mono B7'.out.size))
          have cs := same_any A A8 n c n8 c8 ys w8.heap.size w8 HLY (hide (hn8.trans HLY.out)) hnm (S7.out.call hb8).see (Sees.own ho8)
          clear ho8 hb8 cE q7 q8 h0 hn8
          go_wp2_with fail
          refine cs.mono ?_
          rintro e w9' ⟨rfl, q, rfl⟩
          have HN := hide (below_draws B8'.out q)
          clear cs
          go_wp2_with fail
          go_roundw
          case rel => exact ⟨i + 1, by omega, by go_num, HN⟩
          case measure => simp [intOf]; omega
        · have hne : (er != 0) = true := by simpa using hx0
          clear hx0 q7 q8
          go_wp2_with fail
          go_roundw
          case rel => exact ⟨i + 1, by omega, by go_num, B7'⟩
          case measure => simp [intOf]; omega
      · obtain rfl : i = 4 := by omega
        have hlz : ¬ (((4 : Nat) : Int) < 4) := by omega
        have FIN := hide (BL.out.trans (hbr.out.mono BL.out.size))
        clear hlt
        go_wp2_with fail
        go_ret
        exact ⟨rfl, FIN.out⟩
end Go.Proofs.YtlkcjjalkdlicaaDoor
end

section
/-
  MachcodeEncodeInvertsDecode: for every input the law returns true, and each argument reads behind the call as it did before, where the listed table lies as its initialiser lays it; the card ties that table to the program's text. No other condition: every input that the row speaks of.
-/
namespace Go.Proofs.YtlkcjjalkdlicaaDoor
open Go.ChangeShapes Go.WideShapes Go.ChangeAt Go.RowKit

namespace rowMachcodeEncodeInvertsDecode
set_option maxRecDepth 100000 in
theorem contract (H : Type) (enc : TypeId × Value → H) (W : World) (base : Nat) (args : Array Value) (ds gs : List (DataW H)) (before : List MemPlace)
    (hval : ∀ (j : Nat) t v, Tryd.f7.params[j]? = some t → args[j]? = some v → Value.okWide Tryd.prog W .any base t v)
    (hW : DataW.Whole enc Tryd.prog Tryd.f7.params.toList Rows.machcodeEncodeInvertsDecodeSpec.vars false W args.toList ds gs before) (hL : laidMetH Tryd.prog laidOne W) :
    Calls Tryd.prog 7 args W fun e W' => ∃ v, e = .returned v ∧ Rows.machcodeEncodeInvertsDecodeSpec.post enc Tryd.prog Tryd.f7 false true false false W args v W' := by
  have hW' := hW
  obtain ⟨p, q, hA, hV, rfl, hfz, hnd⟩ := hW
  have hA : DataW.TrodAll enc Tryd.prog W 0 (fun _ => true) true Tryd.f7.params.toList args.toList ds p := hA
  rw [Tryd.params7] at hA hval
  obtain ⟨v0, vs0, d0, ds0, p0, q0, hargs, rfl, rfl, h0, r0⟩ := trodAll_cons hA
  obtain ⟨v1, vs1, d1, ds1, p1, q1, rfl, rfl, rfl, h1, r1⟩ := trodAll_cons r0
  obtain ⟨v2, vs2, d2, ds2, p2, q2, rfl, rfl, rfl, h2, r2⟩ := trodAll_cons r1
  obtain ⟨v3, vs3, d3, ds3, p3, q3, rfl, rfl, rfl, h3, r3⟩ := trodAll_cons r2
  obtain ⟨rfl, rfl, rfl⟩ := trodAll_nil r3
  obtain rfl : args = #[v0, v1, v2, v3] := by cases args; simp_all
  obtain ⟨A0, n0, c0, zs0, rfl, hb0⟩ := open_bs Tryd.underlying22 Tryd.underlying5 cells_u8 (hval 0 22 v0 rfl rfl) h0
  obtain ⟨A1, n1, c1, zs1, rfl, hb1⟩ := open_bs Tryd.underlying22 Tryd.underlying5 cells_u8 (hval 1 22 v1 rfl rfl) h1
  obtain ⟨a2, rfl, _, _, w2⟩ := open_int Tryd.underlying3 (hval 2 3 v2 rfl rfl) h2
  have b2 := bounds_i64 w2
  obtain ⟨a3, rfl, _, _, w3⟩ := open_int Tryd.underlying5 (hval 3 5 v3 rfl rfl) h3
  have b3 := bounds_u8 w3
  refine (jeinv_walk A0 n0 c0 zs0 A1 n1 c1 zs1 a2 a3 W (hide hb0) (hide hb1) b3.1 b3.2 (hide (tab_of_laid hL))).mono fun e W' ⟨he, hB⟩ => ⟨_, he, ?_⟩
  exact law_post laid_out (by decide +kernel) rfl rfl Tryd.underlying4 rfl hW' hB

set_option maxRecDepth 100000 in
theorem lifted (os : Os) (started : os.Started) (H : Type) (enc : TypeId × Value → H) :
    ReturnsInHanded {} Tryd.checked os 7 .any (fun w args => (Rows.machcodeEncodeInvertsDecodeSpec.pre enc Tryd.prog Tryd.f7 [] false w args ∧ laidMetH Tryd.prog laidOne w) ∧ sizedMet enc Tryd.prog Tryd.f7 (OpenSpec.ofChange Rows.machcodeEncodeInvertsDecodeSpec) false w args)
      (Rows.machcodeEncodeInvertsDecodeSpec.post enc Tryd.prog Tryd.f7 false true false false) := by
  refine returnsInHanded_of_change_and (C := Tryd.checked) (X := fun w _ => laidMetH Tryd.prog laidOne w) (fun _ _ _ hh h => h.of_heap hh) own_knob started (by kernel_rfl) Tryd.func7
    (ChangeSpec.witness_shaped (enc := enc) (C := Tryd.checked) (os := os) (X := fun w _ => laidMetH Tryd.prog laidOne w) false (World.doorLaid Tryd.prog 400 os) #[.slice none 0 0, .slice none 0 0, .int .i64 0, .int .u8 0] 8 rfl (World.shaped_of_RefB (by kernel_rfl) (by kernel_rfl)) (by kernel_rfl) (by kernel_rfl) (by kernel_rfl) (door_met os _)) ?_
  intro W base args ds gs before hval hW _ _ hL _
  exact contract H enc W base args ds gs before hval hW hL

theorem row : Rows.MachcodeEncodeInvertsDecodeSaid :=
  OpenClaim.holds_of_wide 7 Tryd.f7 rfl rfl rfl rfl rfl rfl rfl ⟨rfl, rfl, rfl, rfl, rfl⟩ rfl rfl rfl rfl rfl (by kernel_rfl) Tryd.func7 (by kernel_rfl)
    (of_decide_eq_true (by kernel_rfl)) (by unfold Func.isWrapper; first | (rw [if_pos (by decide +kernel)]; kernel_rfl) | (rw [if_neg (by decide +kernel)]; exact ⟨rfl, rfl⟩))
    (fun os started H enc _ => lifted os started H enc)

theorem proved : Rows.MachcodeEncodeInvertsDecodeCardSaid :=
  Claim7.holds_tied_plain_at .later [] [.data, .data] true (true, "e8c233ad12a599768d7ed54128b92113e7ff31747b87bad3f7741b26ca18d249") false
    row (fun _ h => by cases h) (by kernel_rfl) (fun _ h => by cases h) machcodeEncodeInvertsDecode_row_tie rfl ⟨rfl, rfl⟩ (by kernel_rfl) rfl
    (fun f fn hf hfn => by
      obtain rfl : f = 7 := Option.some.inj ((show Tryd.prog.funcNamed "spillframe/spillframelaw11.MachcodeEncodeInvertsDecode" = some 7 by kernel_rfl).symm.trans hf) |>.symm
      obtain rfl : fn = Tryd.f7 := (Option.some.inj (Tryd.func7.symm.trans hfn)).symm
      exact ⟨by kernel_rfl, fun j t ht => by
        rw [Tryd.params7] at ht
        have hm : t ∈ [22, 22, 3, 5] := by simpa using Array.mem_of_getElem? ht
        have hall : ([22, 22, 3, 5].all fun u => !Tryd.prog.wantsStandIn u) = true := by kernel_rfl
        exact (show Tryd.prog.wantsStandIn t = false by simpa using List.all_eq_true.1 hall t hm)⟩)
    (by kernel_rfl)
end rowMachcodeEncodeInvertsDecode
end Go.Proofs.YtlkcjjalkdlicaaDoor
end
