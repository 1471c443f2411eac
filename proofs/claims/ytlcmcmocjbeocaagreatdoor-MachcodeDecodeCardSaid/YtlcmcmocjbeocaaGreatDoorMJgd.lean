import Derived.Test.YtlcmcmocjbeocaaGreatDoorMJdt
import Derived.Test.YtlcmcmocjbeocaaGreatDoorMPmem
import Derived.Test.YtlcmcmocjbeocaaGreatDoorMJenc
import Derived.Test.YtlcmcmocjbeocaaGreatDoorMJrdm
import Derived.Test.YtlcmcmocjbeocaaGreatDoorMRct
import Derived.ArgAppend
import Derived.Deep.RegionHeld3
import Derived.Deep.DrawnRows
set_option linter.unusedVariables false
set_option linter.unusedSimpArgs false
section
/-
  A drawn program, lowered with its plain layouts and with some stores' offsets drawn anew, is a right target that can be written. No function of the program is named here.
-/
namespace Go.Proofs.YtlcmcmocjbeocaaGreatDoor
open Go.RowKit

theorem g25 {op : Int} (h0 : 0 ≤ op) (h1 : op < 25) : op = 0 ∨ op = 1 ∨ op = 2 ∨ op = 3 ∨ op = 4 ∨ op = 5 ∨ op = 6 ∨ op = 7 ∨ op = 8 ∨ op = 9 ∨ op = 10 ∨ op = 11 ∨ op = 12 ∨ op = 13 ∨ op = 14 ∨ op = 15 ∨ op = 16 ∨ op = 17 ∨ op = 18 ∨ op = 19 ∨ op = 20 ∨ op = 21 ∨ op = 22 ∨ op = 23 ∨ op = 24 := by omega
theorem mop0 {N C n : Int} (h : withB n 1 = true) : mopE N C 0 n = 0 := by
  have := withB_true.1 h
  unfold mopE
  rw [if_pos rfl, if_pos (by omega)]
theorem mop1 {N C n : Int} (h : withB n 8 = true) : mopE N C 1 n = 0 := by unfold mopE; rw [if_neg (by decide), if_pos rfl, if_pos h]
theorem mop2 {N C n : Int} : mopE N C 2 n = 0 := by unfold mopE; rw [if_neg (by decide), if_neg (by decide), if_neg (by decide), if_neg (by decide), if_neg (by decide)]
theorem mop3 {N C n : Int} (h : szB n = true) : mopE N C 3 n = 0 := by unfold mopE; rw [if_neg (by decide), if_neg (by decide), if_neg (by decide), if_pos rfl, if_pos h]
theorem mop4 {N C n : Int} (h : withB n N = true) : mopE N C 4 n = 0 := by unfold mopE; rw [if_neg (by decide), if_neg (by decide), if_pos rfl, if_pos h]
theorem mop5 {N C n : Int} (h : withB n C = true) : mopE N C 5 n = 0 := by unfold mopE; rw [if_neg (by decide), if_neg (by decide), if_neg (by decide), if_neg (by decide), if_pos rfl, if_pos h]
/-- An instruction of a frame without an error. -/
structure GI (N C : Int) (P S : Int) (x : Ins) : Prop where
  ex : exB x.op = true
  a : mopE N C (mshpOf x.op).1 x.a = 0
  b : mopE N C (mshpOf x.op).2.1 x.b = 0
  c : mopE N C (mshpOf x.op).2.2.1 x.c = 0
  m : (mshpOf x.op).2.2.2 = true ∨ x.imm = 0
  cov : covB P S x = true
theorem GI.zero {N : Nat} {f : Fm} {x : Ins} (h : GI N f.code.length f.params f.size x) : minsE N f x = 0 := by
  unfold minsE
  rw [if_neg (by rw [h.ex]; decide), h.cov]
  have e : mfound N f.code.length x = [0, 0, 0] := by
    unfold mfound foundE
    rw [h.a, h.b, h.c, if_neg (by
      rintro ⟨h1, h2⟩
      rcases h.m with e | e
      · rw [e] at h1; cases h1
      · exact h2 e)]
    rfl
  rw [e]
  decide
theorem insB_of {o s n : Int} (h0 : 0 ≤ o) (h1 : 0 ≤ s) (h2 : o + s ≤ 2147483647) (h3 : o + s ≤ n) : insB o s n = true := by
  unfold insB
  rw [Bool.and_eq_true, rightB_iff, decide_eq_true_eq]
  exact ⟨⟨h0, h1, h2⟩, h3⟩
theorem cov_none {P S : Int} {x : Ins} (hr : rdB x.op = false) (hw : wrB x.op = false) (hP : 0 ≤ P) (hS : 0 ≤ S) : covB P S x = true := by
  unfold covB rdI wrI
  rw [hr, hw]
  simp only [Bool.false_eq_true, if_false]
  rw [insB_of (by omega) (by omega) (by omega) (by omega), insB_of (by omega) (by omega) (by omega) (by omega)]
  rfl
theorem cov_rd {P S : Int} {x : Ins} (hr : rdB x.op = true) (hw : wrB x.op = false) (hS : 0 ≤ S) (h0 : 0 ≤ x.b) (h1 : 0 ≤ x.c) (h2 : x.b + x.c ≤ 2147483647) (h3 : x.b + x.c ≤ S + 16 * P) : covB P S x = true := by
  unfold covB rdI wrI
  rw [hr, hw]
  simp only [Bool.false_eq_true, if_false, if_true]
  rw [insB_of h0 h1 h2 h3, insB_of (by omega) (by omega) (by omega) (by omega)]
  rfl
theorem cov_wr {P S : Int} {x : Ins} (hr : rdB x.op = false) (hw : wrB x.op = true) (hP : 0 ≤ P) (hS : 0 ≤ S) (h0 : 0 ≤ x.a) (h1 : 0 ≤ x.c) (h2 : x.a + x.c ≤ 2147483647) (h3 : x.a + x.c ≤ S) : covB P S x = true := by
  unfold covB rdI wrI
  rw [hr, hw]
  simp only [Bool.false_eq_true, if_false, if_true]
  rw [insB_of (by omega) (by omega) (by omega) (by omega), insB_of h0 h1 h2 h3]
  rfl
theorem argI_ge (F : Pg) (n : Int) (x : Ins) : n ≤ argI F n x := by
  unfold argI
  (repeat' split) <;> omega
theorem argN_ge {F : Pg} {l : List Ins} : ∀ k, k ≤ l.length → ∀ (j : Nat) (hl : j < l.length), j < k → (l[j].op = 18 → l[j].a + 1 ≤ argN F (l.take k)) ∧ (l[j].op = 22 → ((F[l[j].a.toNat]?).map Fn.params).getD 0 ≤ argN F (l.take k)) := by
  intro k
  induction k with
  | zero => intro _ j _ hj; omega
  | succ k ih =>
    intro hk j hl hj
    rw [argN_snoc F l k (by omega)]
    by_cases hjk : j < k
    · have h := ih (by omega) j hl hjk
      have hg := argI_ge F (argN F (l.take k)) l[k]
      exact ⟨fun e => Int.le_trans (h.1 e) hg, fun e => Int.le_trans (h.2 e) hg⟩
    · obtain rfl : j = k := by omega
      refine ⟨fun e => ?_, fun e => ?_⟩
      · rw [argI_arg e]; omega
      · unfold argI
        rw [if_neg (by omega), if_pos e]
        omega
/-- Where each slot lies. -/
theorem offs {a : Int} {l : List (Int × Int)} (ha : 0 ≤ a ∧ a ≤ 128) (hs : ∀ u ∈ l, slotB u.1 u.2 = true) : ∀ k, k ≤ l.length → ∀ (j : Nat) (hl : j < l.length), j < k → ∃ o, (basF a (l.take k)).1[j]? = some o ∧ a ≤ o ∧ o + l[j].1 ≤ (basF a (l.take k)).2 := by
  intro k
  induction k with
  | zero => intro _ j _ hj; omega
  | succ k ih =>
    intro hk j hl hj
    have hlen := basF_len a l k (by omega)
    have hb := basF_b ha hs k (by omega)
    rw [basF_snoc a l k (by omega)]
    have hsl := hs _ (List.getElem_mem (show k < l.length by omega))
    unfold slotB at hsl
    rw [Bool.and_eq_true] at hsl
    have h1 := szB_b hsl.1
    have h2 := powB_b hsl.2
    have hu := upM_b (basF a (l.take k)).2 (show 0 < l[k].2 by omega)
    unfold basI
    simp only
    by_cases hjk : j < k
    · obtain ⟨o, e1, e2, e3⟩ := ih (by omega) j hl hjk
      exact ⟨o, by rw [List.getElem?_append_left (by omega)]; exact e1, e2, by omega⟩
    · obtain rfl : j = k := by omega
      refine ⟨upM (basF a (l.take j)).2 l[j].2, by rw [List.getElem?_append_right (by omega), hlen, Nat.sub_self]; rfl, by omega, by omega⟩
theorem term_low (os : List Int) (sl : List (Int × Int)) (S : Int) (x : Ins) : termB (lowX os sl S x).op = termB x.op := by
  unfold lowX
  (repeat' split) <;> rename_i h <;> simp_all [termB]
theorem low_gi {F : Pg} {f : Fn} {al : Int} (hF : LowPg2 F) (hf : f ∈ F) (hfn : fnE F.length f = 0) (hal : powB al = true) {x : Ins} (hx : x ∈ f.code) :
    GI F.length (f.code.length : Nat) f.params (lowF F al f).size (lowX (basF (argN F f.code * 16) f.slots).1 f.slots (lowF F al f).size x) := by
  obtain ⟨hc, hsl0, hp, hins, _⟩ := fnE_zero.1 hfn
  obtain ⟨ho, e1, e2, e3, hm, hmv⟩ := insE_zero.1 (hins x hx)
  rw [opndE_zero] at e1 e2 e3
  have hsl := hF.pg.slot f hf
  have hab := argN_b (hF.pg.arg f hf) f.code.length
  rw [List.take_of_length_le (Nat.le_refl _)] at hab
  have hS := low_size (hF.pg.arg f hf) hsl (hF.pg.six f hf) hal
  have hoff := offs (a := argN F f.code * 16) (by omega) hsl f.slots.length (Nat.le_refl _)
  rw [List.take_of_length_le (Nat.le_refl _)] at hoff
  have hbb := basF_b (a := argN F f.code * 16) (by omega) hsl f.slots.length (Nat.le_refl _)
  rw [List.take_of_length_le (Nat.le_refl _)] at hbb
  have hal0 := powB_b hal
  have hup := upM_b (basF (argN F f.code * 16) f.slots).2 (show 0 < al by omega)
  have hSd : (lowF F al f).size = upM (basF (argN F f.code * 16) f.slots).2 al := rfl
  obtain ⟨S, hSe⟩ : ∃ S, (lowF F al f).size = S := ⟨_, rfl⟩
  rw [hSe] at hS hSd ⊢
  have hslot : ∀ k : Int, 0 ≤ k → k < f.slots.length → ∃ o, (basF (argN F f.code * 16) f.slots).1.getD k.toNat 0 = o ∧ 0 ≤ o ∧ o + sizeAt f.slots k ≤ S ∧ szB (sizeAt f.slots k) = true := fun k h0 h1 => by
    obtain ⟨j, rfl⟩ := Int.eq_ofNat_of_zero_le h0
    have hj : j < f.slots.length := by omega
    obtain ⟨o, q1, q2, q3⟩ := hoff j hj hj
    have hz := hsl _ (List.getElem_mem hj)
    unfold slotB at hz
    rw [Bool.and_eq_true] at hz
    rw [sz_at hj]
    exact ⟨o, by rw [Int.toNat_natCast, List.getD_eq_getElem?_getD, q1]; rfl, by omega, by omega, hz.1⟩
  have harg : x.op = 18 → 16 * x.a + 16 ≤ S := fun h18 => by
    obtain ⟨j, hj, rfl⟩ := List.mem_iff_getElem.1 hx
    have h := (argN_ge (F := F) f.code.length (Nat.le_refl _) j hj hj).1 h18
    rw [List.take_of_length_le (Nat.le_refl _)] at h
    omega
  clear hoff hbb hup hSd hx hins
  obtain ⟨os, hos⟩ : ∃ os, (basF (argN F f.code * 16) f.slots).1 = os := ⟨_, rfl⟩
  rw [hos] at hslot ⊢
  clear hos
  obtain ⟨o, a, b, c, m⟩ := x
  simp only at ho e1 e2 e3 hm hmv harg
  rcases g25 ho.1 ho.2 with rfl | rfl | rfl | rfl | rfl | rfl | rfl | rfl | rfl | rfl | rfl | rfl | rfl | rfl | rfl | rfl | rfl | rfl | rfl | rfl | rfl | rfl | rfl | rfl | rfl
  case inr.inr.inr.inr.inr.inr.inr.inr.inr.inr.inr.inr.inr.inr.inr.inl =>
    obtain ⟨z, z1, z2, z3, z4⟩ := hslot b (withB_true.1 e2).1 (withB_true.1 e2).2
    have hb := szB_b z4
    rw [show lowX os f.slots S ⟨15, a, b, c, m⟩ = ⟨15, a, z, sizeAt f.slots b, 0⟩ from by rw [← z1]; rfl]
    exact ⟨rfl, mop1 e1, mop2, mop3 z4, .inr rfl, cov_rd rfl rfl hS.1 z2 (by simp only; omega) (by simp only; omega) (by simp only; omega)⟩
  case inr.inr.inr.inr.inr.inr.inr.inr.inr.inr.inr.inr.inr.inr.inr.inr.inl =>
    obtain ⟨z, z1, z2, z3, z4⟩ := hslot a (withB_true.1 e1).1 (withB_true.1 e1).2
    have hb := szB_b z4
    rw [show lowX os f.slots S ⟨16, a, b, c, m⟩ = ⟨16, z, b, sizeAt f.slots a, 0⟩ from by rw [← z1]; rfl]
    exact ⟨rfl, mop2, mop1 e2, mop3 z4, .inr rfl, cov_wr rfl rfl hp.1 hS.1 z2 (by simp only; omega) (by simp only; omega) (by simp only; omega)⟩
  case inr.inr.inr.inr.inr.inr.inr.inr.inr.inr.inr.inr.inr.inr.inr.inr.inr.inl =>
    obtain ⟨z, z1, z2, z3, z4⟩ := hslot a (withB_true.1 e1).1 (withB_true.1 e1).2
    obtain ⟨y, y1, y2, y3, y4⟩ := hslot b (withB_true.1 e2).1 (withB_true.1 e2).2
    have hb := szB_b z4
    have heq : sizeAt f.slots a = sizeAt f.slots b := by
      unfold moveBad at hmv
      simpa using hmv
    rw [show lowX os f.slots S ⟨17, a, b, c, m⟩ = ⟨17, z, y, sizeAt f.slots a, 0⟩ from by rw [← z1, ← y1]; rfl]
    refine ⟨rfl, mop2, mop2, mop3 z4, .inr rfl, ?_⟩
    unfold covB rdI wrI
    rw [show rdB 17 = true from rfl, show wrB 17 = true from rfl]
    simp only [if_true]
    rw [insB_of y2 (by omega) (by omega) (by omega), insB_of z2 (by omega) (by omega) (by omega)]
    rfl
  case inr.inr.inr.inr.inr.inr.inr.inr.inr.inr.inr.inr.inr.inr.inr.inr.inr.inr.inl =>
    have h1 := withB_true.1 (show withB a 8 = true from e1)
    have h2 := harg rfl
    rw [show lowX os f.slots S ⟨18, a, b, c, m⟩ = ⟨16, 16 * a, b, 16, 0⟩ from rfl]
    exact ⟨rfl, mop2, mop1 e2, mop3 (show szB 16 = true by decide), .inr rfl, cov_wr rfl rfl hp.1 hS.1 (by simp only; omega) (by simp only; omega) (by simp only; omega) (by simp only; omega)⟩
  case inr.inr.inr.inr.inr.inr.inr.inr.inr.inr.inr.inr.inr.inr.inr.inr.inr.inr.inr.inl =>
    have h1 := withB_true.1 (show withB b f.params = true from e2)
    rw [show lowX os f.slots S ⟨19, a, b, c, m⟩ = ⟨15, a, S + 16 * b, 16, 0⟩ from rfl]
    exact ⟨rfl, mop1 e1, mop2, mop3 (show szB 16 = true by decide), .inr rfl, cov_rd rfl rfl hS.1 (by simp only; omega) (by simp only; omega) (by simp only; omega) (by simp only; omega)⟩
  all_goals
    refine ⟨rfl, ?_, ?_, ?_, hm, cov_none rfl rfl hp.1 hS.1⟩
    · first | exact mop0 e1 | exact mop1 e1 | exact mop4 e1 | exact mop5 e1
    · first | exact mop0 e2 | exact mop1 e2 | exact mop4 e2 | exact mop5 e2
    · first | exact mop0 e3 | exact mop1 e3 | exact mop4 e3 | exact mop5 e3
theorem closed_ops {l l' : List Ins} (h : l'.map (fun x => termB x.op) = l.map (fun x => termB x.op)) : closedB l' = closedB l := by
  have e : ∀ m : List Ins, closedB m = ((m.map (fun x => termB x.op)).getLast?).getD false := fun m => by
    unfold closedB
    rw [List.getLast?_map]
    cases m.getLast? <;> rfl
  rw [e, e, h]
/-- A frame of the drawn target. -/
structure FG (N : Nat) (al : Int) (ps : List Int) (q : Fm) : Prop where
  p : 0 ≤ q.params ∧ q.params ≤ 8
  s : 0 ≤ q.size ∧ q.size ≤ 268435456
  d : q.size % al = 0
  n : q.code.length ≤ 1024
  g : ∀ x ∈ q.code, GI N (q.code.length : Nat) q.params q.size x
  cl : closedB q.code = true
  call : ∀ x ∈ q.code, x.op = 22 → 16 * ((ps[x.a.toNat]?).getD 0) ≤ q.size
  imm : ∀ x ∈ q.code, 0 ≤ x.imm ∧ x.imm ≤ 18446744073709551615
theorem fm_zero {N : Nat} {al : Int} {ps : List Int} {q : Fm} (h : FG N al ps q) (hal : powB al = true) : fmE al N q = 0 := by
  have hs : shB al q = true := by
    unfold shB
    have h1 := h.p
    have h2 := h.s
    rw [hal, withB_true.2 (show 0 ≤ q.params ∧ q.params < 9 by omega), withB_true.2 (show 0 ≤ q.size ∧ q.size < 2147483520 by omega), decide_eq_true h.d]
    rfl
  have hf : firstE (q.code.map (minsE N q)) = 0 := firstE_zero.2 fun e he => by
    obtain ⟨x, hx, rfl⟩ := List.mem_map.1 he
    exact (h.g x hx).zero
  have hn := h.n
  unfold fmE
  rw [if_neg (by rw [hs]; decide), if_neg (by omega), if_neg (by rw [hf]; decide), if_neg (by rw [h.cl]; decide)]
theorem low_fg {F : Pg} {funcs most i : Nat} (h : PgGood funcs most F) (hf2 : funcs ≤ 80) (hm : most ≤ 100) {al : Int} (hal : powB al = true) {f : Fn} (hf : F[i]? = some f) : FG F.length al (F.map Fn.params) (lowF F al f) := by
  have hl := good_low h hf2 hm
  have hfm := List.mem_of_getElem? hf
  have hfn := (pgE_zero.1 h.err).2.2 f hfm
  obtain ⟨hc, hsl0, hp, hins, hcl⟩ := fnE_zero.1 hfn
  have hgd := (h.fn i f hf).1
  have hal0 := powB_b hal
  have hlen : (lowF F al f).code.length = f.code.length := by unfold lowF; simp
  have hS := low_size (hl.pg.arg f hfm) (hl.pg.slot f hfm) (hl.pg.six f hfm) hal
  refine ⟨hp, hS, Int.emod_eq_zero_of_dvd (upM_dvd _ _), by rw [hlen]; exact hc, fun y hy => ?_, ?_, fun y hy h22 => ?_, fun y hy => ?_⟩
  · obtain ⟨x, hx, rfl⟩ := List.mem_map.1 (show y ∈ f.code.map _ from hy)
    rw [hlen]
    exact low_gi hl hfm hfn hal hx
  · rw [← hcl]
    refine closed_ops ?_
    show (f.code.map _).map _ = _
    rw [List.map_map]
    exact List.map_congr_left fun x _ => term_low _ _ _ x
  · obtain ⟨x, hx, rfl⟩ := List.mem_map.1 (show y ∈ f.code.map _ from hy)
    have hx22 : x.op = 22 := by
      unfold lowX at h22
      by_cases a1 : x.op = 15
      · rw [if_pos a1] at h22; simp at h22
      · rw [if_neg a1] at h22
        by_cases a2 : x.op = 16
        · rw [if_pos a2] at h22; simp at h22
        · rw [if_neg a2] at h22
          by_cases a3 : x.op = 17
          · rw [if_pos a3] at h22; simp at h22
          · rw [if_neg a3] at h22
            by_cases a4 : x.op = 18
            · rw [if_pos a4] at h22; simp at h22
            · rw [if_neg a4] at h22
              by_cases a5 : x.op = 19
              · rw [if_pos a5] at h22; simp at h22
              · rw [if_neg a5] at h22; exact h22
    have hxe : lowX (basF (argN F f.code * 16) f.slots).1 f.slots (upM (basF (argN F f.code * 16) f.slots).2 al) x = x := by
      unfold lowX
      rw [if_neg (by omega), if_neg (by omega), if_neg (by omega), if_neg (by omega), if_neg (by omega)]
    rw [hxe]
    obtain ⟨j, hj, rfl⟩ := List.mem_iff_getElem.1 hx
    have hg := (argN_ge (F := F) f.code.length (Nat.le_refl _) j hj hj).2 hx22
    rw [List.take_of_length_le (Nat.le_refl _)] at hg
    have hab := argN_b (hl.pg.arg f hfm) f.code.length
    rw [List.take_of_length_le (Nat.le_refl _)] at hab
    have hbb := basF_b (a := argN F f.code * 16) (by omega) (hl.pg.slot f hfm) f.slots.length (Nat.le_refl _)
    rw [List.take_of_length_le (Nat.le_refl _)] at hbb
    have hup := upM_b (basF (argN F f.code * 16) f.slots).2 (show 0 < al by omega)
    have hSd : (lowF F al f).size = upM (basF (argN F f.code * 16) f.slots).2 al := rfl
    rw [List.getElem?_map]
    omega
  · obtain ⟨x, hx, rfl⟩ := List.mem_map.1 (show y ∈ f.code.map _ from hy)
    have hi := hgd.imm x hx
    unfold immI at hi
    unfold lowX
    (repeat' split) <;> first | exact hi | exact ⟨by decide, by decide⟩ | (simp only; omega)
theorem var_fg {N : Nat} {al : Int} {ps : List Int} {f q : Fm} (h : FG N al ps f) (hp : q.params = f.params) (hs : q.size = f.size) (hc : CdVar f.size f.code q.code) : FG N al ps q := by
  have hlen := hc.1
  have hx : ∀ y ∈ q.code, ∃ x ∈ f.code, (y = x ∨ (x.op = 16 ∧ ∃ t : Int, 0 ≤ t ∧ t + x.c ≤ f.size ∧ y = ⟨16, t, x.b, x.c, x.imm⟩)) := fun y hy => by
    obtain ⟨j, hj, rfl⟩ := List.mem_iff_getElem.1 hy
    have hjl : j < f.code.length := by omega
    exact ⟨f.code[j], List.getElem_mem hjl, hc.2 j _ _ (List.getElem?_eq_getElem hjl) (List.getElem?_eq_getElem hj)⟩
  refine ⟨by rw [hp]; exact h.p, by rw [hs]; exact h.s, by rw [hs]; exact h.d, by rw [hlen]; exact h.n, fun y hy => ?_, ?_, fun y hy h22 => ?_, fun y hy => ?_⟩
  · rw [hlen, hp, hs]
    obtain ⟨x, hxm, rfl | ⟨ho, t, t0, t1, rfl⟩⟩ := hx y hy
    · exact h.g _ hxm
    · have g := h.g x hxm
      have gb := g.b
      have gc := g.c
      have gm := g.m
      rw [ho] at gb gc gm
      have hz : szB x.c = true := by
        cases e : szB x.c with
        | true => rfl
        | false =>
          have : mopE N (f.code.length : Nat) 3 x.c = 5 := by unfold mopE; rw [if_neg (by decide), if_neg (by decide), if_neg (by decide), if_pos rfl, if_neg (by rw [e]; decide)]
          rw [show (mshpOf 16).2.2.1 = 3 from rfl, this] at gc
          cases gc
      have hzb := szB_b hz
      have hS := h.s
      exact ⟨rfl, mop2, gb, gc, gm, cov_wr rfl rfl h.p.1 hS.1 t0 (by simp only; omega) (by simp only; omega) (by simp only; omega)⟩
  · rw [← h.cl]
    refine closed_ops (List.ext_getElem (by simp [hlen]) fun j h1 h2 => ?_)
    simp only [List.length_map] at h1 h2
    rw [List.getElem_map, List.getElem_map]
    rcases hc.2 j _ _ (List.getElem?_eq_getElem h2) (List.getElem?_eq_getElem h1) with e | ⟨ho, t, _, _, e⟩
    · rw [e]
    · rw [e, ho]
  · rw [hs]
    obtain ⟨x, hxm, rfl | ⟨ho, t, t0, t1, rfl⟩⟩ := hx y hy
    · exact h.call _ hxm h22
    · simp at h22
  · obtain ⟨x, hxm, rfl | ⟨ho, t, t0, t1, rfl⟩⟩ := hx y hy
    · exact h.imm _ hxm
    · exact h.imm x hxm
theorem draw_fg {F : Pg} {funcs most : Nat} {al : Int} {G : Tg} (h : PgGood funcs most F) (hf2 : funcs ≤ 80) (hm : most ≤ 100) (hal : powB al = true) (hv : StVar (F.map (lowF F al)) G) : G.length = F.length ∧ G.map Fm.params = F.map Fn.params ∧ ∀ q ∈ G, FG F.length al (F.map Fn.params) q := by
  have hlen : G.length = F.length := by rw [hv.1, List.length_map]
  have hat : ∀ (i : Nat) (q : Fm), G[i]? = some q → ∃ f, F[i]? = some f ∧ q.params = f.params ∧ FG F.length al (F.map Fn.params) q := fun i q hq => by
    have hi := (List.getElem?_eq_some_iff.1 hq).1
    have hfi := List.getElem?_eq_getElem (show i < F.length by omega)
    have h0 : (F.map (lowF F al))[i]? = some (lowF F al F[i]) := by rw [List.getElem?_map, hfi]; rfl
    obtain ⟨a1, a2, a3⟩ := hv.2 i _ q h0 hq
    exact ⟨F[i], hfi, a1, var_fg (low_fg h hf2 hm hal hfi) a1 a2 a3⟩
  refine ⟨hlen, List.ext_getElem? fun i => ?_, fun q hq => ?_⟩
  · rw [List.getElem?_map, List.getElem?_map]
    rcases hg : G[i]? with _ | q
    · have : F[i]? = none := List.getElem?_eq_none (by have := List.getElem?_eq_none_iff.1 hg; omega)
      rw [this]; rfl
    · obtain ⟨f, hf, hp, _⟩ := hat i q hg
      rw [hf]
      simp [hp]
  · obtain ⟨i, hi, rfl⟩ := List.mem_iff_getElem.1 hq
    exact (hat i _ (List.getElem?_eq_getElem hi)).choose_spec.2.2
theorem draw_zero {F : Pg} {funcs most : Nat} {al : Int} {G : Tg} (h : PgGood funcs most F) (hf2 : funcs ≤ 80) (hm : most ≤ 100) (hal : powB al = true) (h16 : 16 ≤ al) (hv : StVar (F.map (lowF F al)) G) : tgE al G = 0 := by
  obtain ⟨hlen, hps, hfg⟩ := draw_fg h hf2 hm hal hv
  obtain ⟨h80, ⟨f0, r0, hF0, hp0⟩, _⟩ := pgE_zero.1 h.err
  have hG1 : 0 < G.length := by rw [hlen, hF0]; simp
  have hq0 := List.getElem?_eq_getElem hG1
  have hpe : (G[0]).params = 0 := by
    have e := congrArg (fun l => l[0]?) hps
    simp only [List.getElem?_map] at e
    rw [hq0, hF0] at e
    simp at e
    rw [e]; exact hp0
  rw [tgE_rest (by omega) hq0 ⟨hal, h16⟩ hpe]
  have hf : firstE (G.map (fmE al G.length)) = 0 := firstE_zero.2 fun e he => by
    obtain ⟨q, hq, rfl⟩ := List.mem_map.1 he
    rw [hlen]
    exact fm_zero (hfg q hq) hal
  rw [if_neg (by rw [hf]; decide)]
  have hroom : G.all (roomB G) = true := List.all_eq_true.2 fun q hq => List.all_eq_true.2 fun x hx => by
    by_cases h22 : x.op = 22
    · have hc := (hfg q hq).call x hx h22
      rw [← hps, List.getElem?_map] at hc
      unfold callB
      rw [decide_eq_true h22, Bool.true_and, decide_eq_false (by omega)]
      rfl
    · exact callB_other h22
  rw [if_pos hroom]
end Go.Proofs.YtlcmcmocjbeocaaGreatDoor
end

section
/-
  A drawn program, lowered with its plain layouts and with some stores' offsets drawn anew, can be written. No function of the program is named here.
-/
namespace Go.Proofs.YtlcmcmocjbeocaaGreatDoor
open Go.RowKit

/-- A drawn target and any bound can be written. -/
theorem draw_good {F : Pg} {funcs most : Nat} {al bd : Int} {G : Tg} (h : PgGood funcs most F) (hf2 : funcs ≤ 20) (hm : most ≤ 100) (hal : powB al = true) (h16 : 16 ≤ al) (hv : StVar (F.map (lowF F al)) G) (hb : bndB bd = true) : JGood al bd G := by
  have hz := draw_zero h (by omega) hm hal h16 hv
  obtain ⟨hlen, _, hfg⟩ := draw_fg h (by omega) hm hal hv
  have hI : ImmT G := fun q hq x hx => (hfg q hq).imm x hx
  have hW := tgW_of hz hb hI
  refine ⟨?_, hI⟩
  unfold encJE
  rw [if_neg (by rw [hz]; decide), if_neg (by rw [hb]; decide), if_neg ?_]
  obtain ⟨k, _, hk, rfl⟩ := hW.al
  have hbd := hW.b
  have hfr : ∀ q ∈ G, (frY ((2 : Int) ^ k) q).length ≤ 45000 := fun q hq => by
    have w := hW.f q hq
    have h1 := flat_le (f := minsY) q.code (fun x hx => minsY_len (w.cd x hx))
    have h2 := w.c
    have h3 := w.p
    have h4 := div_in (k := k) w.s
    have e1 := lenv10 (u := q.params.toNat) (by omega)
    have e2 := lenv10 (u := (q.size / (2 : Int) ^ k).toNat) (by omega)
    have e3 := lenv10 (u := q.code.length) (by omega)
    simp only [frY, List.length_append, digsI_length]
    have := Nat.mul_le_mul_right 41 h2
    omega
  have h1 := flat_le (f := frY ((2 : Int) ^ k)) G hfr
  have h2 : G.length ≤ 20 := by have := h.few; omega
  have e1 := lenv10 (u := k) (by omega)
  have e2 := lenv10 (u := bd.toNat) (by omega)
  have e3 := lenv10 (u := G.length) (by omega)
  have e4 : jmagic.length = 4 := rfl
  have := Nat.mul_le_mul_right 45000 h2
  rw [encJ_len]
  simp only [tgY, List.length_append, digsI_length, expo_pow]
  omega
end Go.Proofs.YtlcmcmocjbeocaaGreatDoor
end

section
/-
  The contract of chapter 11's mended. Conditions: those of the types.
-/
namespace Go.Proofs.YtlcmcmocjbeocaaGreatDoor
open Go.RowKit

/-- Bytes whose last four are made their checksum. -/
def jmend (zs : List Int) : List Int := if zs.length < 4 then zs else withY (zs.take (zs.length - 4))
theorem jmend_byt {zs : List Int} (h : Byt zs) : Byt (jmend zs) := by
  unfold jmend
  split
  · exact h
  · exact (h.take _).app (crcI_bytes _)
/-- Bytes that a call returns. -/
def JBs (ys : List Int) (w : World) (e : Ending) (w' : World) : Prop := ∃ (A : Option Addr) (n c : Nat), e = .returned (.slice A n c) ∧ BsAt w' w'.heap.size A n c ys ∧ Below w.heap.size w w'

set_option maxRecDepth 100000 in
set_option maxHeartbeats 1600000 in
theorem jmended_any (A : Option Addr) (n c : Nat) (zs : List Int) (w : World) (h : Hid (BsAt w w.heap.size A n c zs)) (hm : n ≤ 1099511627776) :
    Calls Tryz.prog 21 #[.slice A n c] w (JBs (jmend zs) w) := by
  by_cases h4 : n < 4
  · have hz : (n : Int) < 4 := by omega
    have FIN := hide (show JBs (jmend zs) w (.returned (.slice A n c)) w from ⟨A, n, c, rfl, by unfold jmend; rw [if_pos (by rw [h.out.len]; exact h4)]; exact h.out, Below.refl _ _⟩)
    go_enter Tryz.func21, Tryz.ntmps21
    go_wp2_with fail
    go_ret
    exact FIN.out
  · obtain ⟨m, rfl⟩ : ∃ m, n = m + 4 := ⟨n - 4, by omega⟩
    obtain ⟨b, off, _, rfl, _⟩ := byte_at (zs := zs) (k := 0) h.out.see (by rw [h.out.len]; omega) h.out.byt
    obtain ⟨i0, hi, hz0, hz1, hz2⟩ := info_parts Tryz.info5
    have hz : ¬ ((m : Int) + 4 < 4) := by omega
    have hw1 : IntKind.i64.wrap ((m : Int) + 4 - 4) = (m : Int) := by rw [IntKind.wrap_i64]; omega
    have hmz : (0 : Int) ≤ (m : Int) := by omega
    have hnc := h.out.nc
    have hmc : (m : Int) ≤ (c : Int) := by omega
    have hmc' := hide (show m ≤ c by omega)
    have HT := hide (h.out.take (k := m) (by omega))
    have EM := hide (show jmend zs = withY (zs.take m) by unfold jmend; rw [if_neg (by rw [h.out.len]; omega), h.out.len, Nat.add_sub_cancel])
    clear hnc
    go_enter Tryz.func21, Tryz.ntmps21
    go_wp2_with (at_builtin; refine wpList_append_seesN rfl (.const (.slice none 0 0)) (.tmp 11) 22 rfl w.heap.size 5 i0 (.int .u8 0) 1 1 Tryz.underlying22 hi hz0 hz1 hz2 rfl (by decide) (.slice none 0 0) 0 [] rfl (World.ownsRow_nil _ _ _ _) w.heap.size (some ⟨b, off, none⟩) m c (cellsU8 (zs.take m)) rfl (hide (fun e => by cases e)) (hide (by have := HT.out.len; simp [cellsU8]; simpa using this)) (hide HT.out.see) hmc' (one_u8 _) (by unfold maxLen; omega) (by omega) (Nat.le_refl _) ?_)
    intro v1 w1 ho0 hg1
    have ho1 : w1.ownsRow w.heap.size 5 1 v1 m (cellsU8 (zs.take m)) := by simpa using ho0
    clear ho0
    have B1 := hide (show Below w.heap.size w w1 from (Below.refl _ _).grown hg1 (Nat.le_refl _) (fun k hk => by cases hk))
    have O1 := hide ho1
    have cp := rputcrc_any v1 m (zs.take m) w.heap.size w1 O1 (hide B1.out.size) (by omega) (hide HT.out.byt)
    obtain ⟨A1, c1, rfl, -, -, -, -⟩ := own_seen O1.out
    clear ho1 hg1
    go_wp2_with fail
    refine cp.mono ?_
    rintro e w2 ⟨r2, rfl, ho2, hg2⟩
    have B2 := hide (below_append B1.out O1.out (Nat.le_refl _) hg2 B1.out.size)
    obtain ⟨A2, c2, rfl, -, -, -, -⟩ := own_seen ho2
    have FIN := hide (show JBs (jmend zs) w (.returned (.slice A2 (m + 4) c2)) w2 from ⟨A2, m + 4, c2, rfl, by rw [EM.out]; exact BsAt.own ho2 (HT.out.byt.app (crcI_bytes _)), B2.out⟩)
    clear ho2 hg2 cp
    go_wp2_with fail
    go_ret
    exact FIN.out
end Go.Proofs.YtlcmcmocjbeocaaGreatDoor
end

section
/-
  Appends to a literal: what comes in may be empty. No function of the program is named here.
-/
namespace Go.Proofs.YtlcmcmocjbeocaaGreatDoor
open Go.RowKit

/-- Bytes in a row of the call's own, or at a literal without room behind it. -/
def Ext (base : Nat) (w : World) (v : Value) (n : Nat) (zs : List Int) : Prop :=
  w.ownsRow base 5 1 v n (cellsU8 zs) ∨ ∃ g B, v = .slice (some ⟨g, 0, none⟩) n n ∧ B ≤ w.heap.size ∧ zs.length = n ∧ Sees w B (some ⟨g, 0, none⟩) (cellsU8 zs)
theorem Ext.alloc {base : Nat} {w : World} {v : Value} {n : Nat} {zs : List Int} (h : Ext base w v n zs) (o : Obj) : Ext base (w.alloc o) v n zs := by
  rcases h with h | ⟨g, B, e, hB, hl, hs⟩
  · exact .inl (h.alloc o)
  · exact .inr ⟨g, B, e, by simp; omega, hl, hs.alloc hB o⟩
theorem run_append_empty {P : Program} (w : World) {t ty e : TypeId} {i : TypeInfo} (ht : P.underlying t = some (.slice e)) (hi : P.info? e = some i) (g k c : Nat) (A : Option Addr) (hA : A = none → c = 0) :
    (Builtin.append_ #[t, t] ty #[.slice (some ⟨g, 0, none⟩) k k, .slice A 0 c]).run P w = .ok (.slice (some ⟨g, 0, none⟩) k k) w := by
  cases A with
  | none =>
    obtain rfl := hA rfl
    simp [Builtin.append_, run_underlying ht, sizeOf, typeInfo, hi, Builtin.lenOf, Builtin.firstCells, storeCells]
  | some ad =>
    have h := run_append_room_cells (P := P) w t ty e i ht hi g 0 k k ad 0 c [] (by simp) (fun j u hu => by simp at hu) (fun u hu => by cases hu) (by omega) (fun j hj => by simp at hj) (fun j hj => by simp at hj)
    rw [h]
    rfl
/-- append(literal, x...), x any bytes. -/
theorem wp_append_lit {P : Program} {w : World} {o : Oper} {a : Act} {K : Act → World → Prop} {Q : Exit → Act → World → Prop} (s x : Operand) (t : TypeId)
    (ho : o.op = .call { callee := .builtin .append, args := #[s, x], argTypes := #[t, t] })
    (i : TypeInfo) (ht : P.underlying t = some (.slice 5)) (hi : P.info? 5 = some i) (hz : i.zero = some (.int .u8 0)) (hsize : i.size = 1) (hby : i.bytes = 1)
    (g k : Nat) (zs : List Int) (B : Nat) (hs : a.eval s = .slice (some ⟨g, 0, none⟩) k k) (hB : B ≤ w.heap.size) (hl : zs.length = k) (hsee : Hid (Sees w B (some ⟨g, 0, none⟩) (cellsU8 zs))) (hk : k ≤ 100)
    (A : Option Addr) (m c : Nat) (bs : List Int) (hx : a.eval x = .slice A m c) (hbs : Hid (BsAt w w.heap.size A m c bs)) (hm : m ≤ 1048576)
    (h : ∀ v' w', Ext w.heap.size w' v' (k + m) (zs ++ bs) → Below w.heap.size w w' → K (a.put o.dst v') w') : o.wp P a w K Q := by
  rcases Nat.eq_zero_or_pos m with h0 | h0
  · subst h0
    have hb0 : bs = [] := List.eq_nil_of_length_eq_zero hbs.out.len
    subst hb0
    have hrun := run_append_empty (P := P) w (ty := o.type) ht hi g k c A hbs.out.nil_
    unfold Oper.wp
    simp [execOp, ho, resolve, invoke, builtin, hs, hx, hrun, Result.andThen]
    exact h _ w (by rw [List.append_nil]; exact .inr ⟨g, B, rfl, hB, hl, hsee.out⟩) (Below.refl _ _)
  · obtain ⟨ad, rfl, hsrc⟩ := hbs.out.see.src (by simp [cellsU8]; rw [hbs.out.len]; exact h0)
    obtain ⟨v', w', hrun, r1, r2⟩ := run_append_arg_grows (P := P) w t o.type 5 i (.int .u8 0) 1 1 ht hi hz hsize hby rfl (by decide) ⟨g, 0, none⟩ k k (cellsU8 zs) (by simp [cellsU8, hl]) (fun j u hj => by
      rw [WideShapes.add_plain, Nat.zero_add]
      obtain ⟨b', off', e, _, hc⟩ := hsee.out j u hj
      injection e with e
      injection e with e1 e2
      subst e1 e2
      rwa [Nat.zero_add] at hc) ad m c (cellsU8 bs) (by simp [cellsU8, hbs.out.len]) hsrc (by omega) (by unfold maxLen; omega) (by omega)
    unfold Oper.wp
    simp [execOp, ho, resolve, invoke, builtin, hs, hx, hrun, Result.andThen]
    exact h v' w' (.inl (by rw [cellsU8_app]; exact r1)) ((Below.refl _ _).grown r2 (Nat.le_refl _) (fun k hk => by cases hk))
/-- append of some bytes behind those. -/
theorem wp_append_ext {P : Program} {w : World} {o : Oper} {a : Act} {K : Act → World → Prop} {Q : Exit → Act → World → Prop} (s x : Operand) (t : TypeId)
    (ho : o.op = .call { callee := .builtin .append, args := #[s, x], argTypes := #[t, t] })
    (i : TypeInfo) (ht : P.underlying t = some (.slice 5)) (hi : P.info? 5 = some i) (hz : i.zero = some (.int .u8 0)) (hsize : i.size = 1) (hby : i.bytes = 1)
    (base n : Nat) (v : Value) (zs : List Int) (hs : a.eval s = v) (hE : Hid (Ext base w v n zs)) (hb : base ≤ w.heap.size) (hn : n ≤ 1048580)
    (g m c : Nat) (bs : List Int) (hx : a.eval x = .slice (some ⟨g, 0, none⟩) m c) (hl : bs.length = m) (hm : 1 ≤ m ∧ m ≤ 100) (hc : Hid (∀ j u, (cellsU8 bs)[j]? = some u → w.cell? ⟨g, j, none⟩ = some u))
    (h : ∀ v' w', w'.ownsRow base 5 1 v' (n + m) (cellsU8 (zs ++ bs)) → Below base w w' → K (a.put o.dst v') w') : o.wp P a w K Q := by
  have hc' : ∀ j u, (cellsU8 bs)[j]? = some u → w.cell? ((⟨g, 0, none⟩ : Addr).add j) = some u := fun j u hu => by rw [WideShapes.add_plain, Nat.zero_add]; exact hc.out j u hu
  have hlc : (cellsU8 bs).length = m * 1 := by simp [cellsU8, hl]
  rcases hE.out with ho' | ⟨g', B, rfl, hB, hzl, hsee⟩
  · refine wp_append_own w s x t ho base 5 i (.int .u8 0) 1 1 ht hi hz hsize hby rfl (by decide) v n (cellsU8 zs) hs ho' ⟨g, 0, none⟩ m c (cellsU8 bs) hx hlc hc' (one_u8 bs) (by unfold maxLen; omega) (by omega) hb fun v' w' h2 h3 _ => h v' w' (by rw [cellsU8_app]; exact h2) ?_
    exact (Below.refl base w).grown h3 hb (fun k hk => (ho'.lt k hk).1)
  · obtain ⟨v', w', hrun, r1, r2⟩ := run_append_arg_grows (P := P) w t o.type 5 i (.int .u8 0) 1 1 ht hi hz hsize hby rfl (by decide) ⟨g', 0, none⟩ n n (cellsU8 zs) (by simp [cellsU8, hzl]) (fun j u hj => by
      rw [WideShapes.add_plain, Nat.zero_add]
      obtain ⟨b', off', e, _, hcc⟩ := hsee j u hj
      injection e with e
      injection e with e1 e2
      subst e1 e2
      rwa [Nat.zero_add] at hcc) ⟨g, 0, none⟩ m c (cellsU8 bs) hlc hc' (by omega) (by unfold maxLen; omega) (by omega)
    unfold Oper.wp
    simp [execOp, ho, resolve, invoke, builtin, hs, hx, hrun, Result.andThen]
    exact h v' w' (by rw [cellsU8_app]; exact own_less r1 hb) ((Below.refl base w).grown r2 hb (fun k hk => by cases hk))
theorem wpList_append_lit {P : Program} {w : World} {ops : Array Oper} {rest : List Oper} {o : Oper} {a : Act} {Q : Exit → Act → World → Prop} (hgd : o.guard = none) (s x : Operand) (t : TypeId)
    (ho : o.op = .call { callee := .builtin .append, args := #[s, x], argTypes := #[t, t] })
    (i : TypeInfo) (ht : P.underlying t = some (.slice 5)) (hi : P.info? 5 = some i) (hz : i.zero = some (.int .u8 0)) (hsize : i.size = 1) (hby : i.bytes = 1)
    (g k : Nat) (zs : List Int) (B : Nat) (hs : a.eval s = .slice (some ⟨g, 0, none⟩) k k) (hB : B ≤ w.heap.size) (hl : zs.length = k) (hsee : Hid (Sees w B (some ⟨g, 0, none⟩) (cellsU8 zs))) (hk : k ≤ 100)
    (A : Option Addr) (m c : Nat) (bs : List Int) (hx : a.eval x = .slice A m c) (hbs : Hid (BsAt w w.heap.size A m c bs)) (hm : m ≤ 1048576)
    (h : ∀ v' w', Ext w.heap.size w' v' (k + m) (zs ++ bs) → Below w.heap.size w w' → wpList P ops Q rest (a.put o.dst v') w') : wpList P ops Q (o :: rest) a w :=
  wpList_plain hgd fun _ hK => wp_append_lit s x t ho i ht hi hz hsize hby g k zs B hs hB hl hsee hk A m c bs hx hbs hm fun v' w' h2 h3 => hK _ _ (h v' w' h2 h3)
theorem wpList_append_ext {P : Program} {w : World} {ops : Array Oper} {rest : List Oper} {o : Oper} {a : Act} {Q : Exit → Act → World → Prop} (hgd : o.guard = none) (s x : Operand) (t : TypeId)
    (ho : o.op = .call { callee := .builtin .append, args := #[s, x], argTypes := #[t, t] })
    (i : TypeInfo) (ht : P.underlying t = some (.slice 5)) (hi : P.info? 5 = some i) (hz : i.zero = some (.int .u8 0)) (hsize : i.size = 1) (hby : i.bytes = 1)
    (base n : Nat) (v : Value) (zs : List Int) (hs : a.eval s = v) (hE : Hid (Ext base w v n zs)) (hb : base ≤ w.heap.size) (hn : n ≤ 1048580)
    (g m c : Nat) (bs : List Int) (hx : a.eval x = .slice (some ⟨g, 0, none⟩) m c) (hl : bs.length = m) (hm : 1 ≤ m ∧ m ≤ 100) (hc : Hid (∀ j u, (cellsU8 bs)[j]? = some u → w.cell? ⟨g, j, none⟩ = some u))
    (h : ∀ v' w', w'.ownsRow base 5 1 v' (n + m) (cellsU8 (zs ++ bs)) → Below base w w' → wpList P ops Q rest (a.put o.dst v') w') : wpList P ops Q (o :: rest) a w :=
  wpList_plain hgd fun _ hK => wp_append_ext s x t ho i ht hi hz hsize hby base n v zs hs hE hb hn g m c bs hx hl hm hc fun v' w' h2 h3 => hK _ _ (h v' w' h2 h3)
end Go.Proofs.YtlcmcmocjbeocaaGreatDoor
end

section
/-
  The contract of the reference's SameCode: whether two lists of instructions are equal. Conditions: those of the types.
-/
namespace Go.Proofs.YtlcmcmocjbeocaaGreatDoor
open Go.RowKit

set_option maxHeartbeats 800000 in
theorem rsamecode_any (A : Option Addr) (n c : Nat) (zs : List Ins) (A' : Option Addr) (n' c' : Nat) (ys : List Ins) (B B' : Nat) (w : World) (hn : Hid (zs.length = n)) (hn' : Hid (ys.length = n')) (hm : n ≤ 4611686018427387904) (h : Hid (Sees w B A (icells zs))) (h' : Hid (Sees w B' A' (icells ys))) :
    Calls Tryz.prog 51 #[.slice A n c, .slice A' n' c'] w (BoolDrew (decide (zs = ys)) w) := by
  by_cases hnn : n = n'
  · subst hnn
    obtain ⟨b, hb⟩ : ∃ b, decide (zs = ys) = b := ⟨_, rfl⟩
    rw [hb]
    have HB := hide hb
    clear hb
    go_enter Tryz.func51, Tryz.ntmps51
    go_wp2_with fail
    go_loopw [5] (fun i wr => ∃ k : Nat, k ≤ n ∧ i = .int .i64 k ∧ Hid (zs.take k = ys.take k) ∧ ∃ m, wr = w.drewN m) (fun i _ => n - (intOf i).toNat)
    case atStart => exact ⟨0, by omega, rfl, hide rfl, 0, rfl⟩
    case round =>
      obtain ⟨k, hk, rfl, hT, m, rfl⟩ := hrel
      by_cases hlt : k < n
      · have l1 : k < zs.length := by have := hn.out; omega
        have l2 : k < ys.length := by have := hn'.out; omega
        obtain ⟨b1, o1, rfl, _, p0, p1, p2, p3, p4⟩ := ins_at h.out l1
        obtain ⟨b2, o2, rfl, _, q0, q1, q2, q3, q4⟩ := ins_at h'.out l2
        have N1 := hide (fun hne => ne_take l1 l2 hne)
        have N2 := hide (fun heq : zs[k] = ys[k] => (show zs.take (k + 1) = ys.take (k + 1) by rw [snoc_take l1, snoc_take l2, hT.out, heq]))
        obtain ⟨x, hx⟩ : ∃ x, zs[k] = x := ⟨_, rfl⟩
        obtain ⟨y, hy⟩ : ∃ y, ys[k] = y := ⟨_, rfl⟩
        rw [hx] at p0 p1 p2 p3 p4 N1 N2
        rw [hy] at q0 q1 q2 q3 q4 N1 N2
        clear hx hy
        obtain ⟨x0, x1, x2, x3, x4⟩ := x
        obtain ⟨y0, y1, y2, y3, y4⟩ := y
        simp only at p0 p1 p2 p3 p4 q0 q1 q2 q3 q4
        have hkz : (0 : Int) ≤ (k : Int) := by omega
        have hkz' : (k : Int) < (n : Int) := by omega
        clear l1 l2
        by_cases hxy : x0 = y0 ∧ x1 = y1 ∧ x2 = y2 ∧ x3 = y3 ∧ x4 = y4
        · have hne : ∀ w, (binOp .neq 64 (iv x0 x1 x2 x3 x4) (iv y0 y1 y2 y3 y4)).run Tryz.prog w = .ok (.bool false) w := fun w => by rw [run_ne_instr]; simp [hxy]
          have H2 := hide (N2.out (by obtain ⟨rfl, rfl, rfl, rfl, rfl⟩ := hxy; rfl))
          clear N1 N2 hxy
          go_wp2_with fail
          go_quiet (fail)
          go_wp2_with fail
          go_roundw
          case rel => exact ⟨k + 1, by omega, by go_num, H2, _, rfl⟩
          case measure => simp [intOf]; omega
        · have hne : ∀ w, (binOp .neq 64 (iv x0 x1 x2 x3 x4) (iv y0 y1 y2 y3 y4)).run Tryz.prog w = .ok (.bool true) w := fun w => by
            rw [run_ne_instr]
            congr 2
            rw [Bool.not_eq_true', ← Bool.not_eq_true]
            simpa using hxy
          have hB := hide (HB.out.symm.trans (decide_eq_false (N1.out (fun e => hxy (by injection e with e0 e1 e2 e3 e4; exact ⟨e0, e1, e2, e3, e4⟩)))))
          clear N1 N2 hxy
          go_wp2_with fail
          go_quiet (fail)
          go_wp2_with fail
          go_ret
          exact ⟨by rw [hB.out]; rfl, _, World.drewN_drewN _ _ _⟩
      · obtain rfl : k = n := by omega
        have hB := hide (HB.out.symm.trans (decide_eq_true (by
          have := hT.out
          rwa [List.take_of_length_le (by have := hn.out; omega), List.take_of_length_le (by have := hn'.out; omega)] at this)))
        go_wp2_with fail
        go_ret
        exact ⟨by rw [hB.out]; rfl, _, rfl⟩
  · have hne : ((n : Int) != (n' : Int)) = true := by rw [bne_iff_ne]; omega
    have HB := hide (show decide (zs = ys) = false by
      rw [decide_eq_false_iff_not]
      rintro rfl
      exact hnn (hn.out.symm.trans hn'.out))
    rw [HB.out]
    clear hnn
    go_enter Tryz.func51, Tryz.ntmps51
    go_wp2_with fail
    go_ret
    exact ⟨rfl, 0, rfl⟩

end Go.Proofs.YtlcmcmocjbeocaaGreatDoor
end
