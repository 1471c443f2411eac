import Derived.Test.YtgcjckbndkddmaaDoorMYlaw2
import Derived.ArgAppend
set_option linter.unusedVariables false
set_option linter.unusedSimpArgs false
section
/-
  Appends to a literal: what comes in may be empty. Drawn bytes: encoded, copied, one changed. No function of the program is named here.
-/
namespace Go.Proofs.YtgcjckbndkddmaaDoor
open Go.RowKit

/-- Bytes in a row of the call's own, or at a literal without room behind it. -/
def Ext (base : Nat) (w : World) (v : Value) (n : Nat) (zs : List Int) : Prop :=
  w.ownsRow base 5 1 v n (cellsU8 zs) ∨ ∃ g B, v = .slice (some ⟨g, 0, none⟩) n n ∧ B ≤ w.heap.size ∧ zs.length = n ∧ Sees w B (some ⟨g, 0, none⟩) (cellsU8 zs)
theorem Ext.alloc {base : Nat} {w : World} {v : Value} {n : Nat} {zs : List Int} (h : Ext base w v n zs) (o : Obj) : Ext base (w.alloc o) v n zs := by
  rcases h with h | ⟨g, B, e, hB, hl, hs⟩
  · exact .inl (h.alloc o)
  · exact .inr ⟨g, B, e, by simp; omega, hl, hs.alloc hB o⟩
theorem run_append_empty {P : Program} (w : World) {t ty e : TypeId} {i : TypeInfo} (ht : P.underlying t = some (.slice e)) (hi : P.info? e = some i) (g k c : Nat) (A : Option Addr) (hA : A = none → c = 0) :
    (Builtin.append_ #[t, t] ty #[.slice (some ⟨g, 0, none⟩) k k, .slice A 0 c]).run P w = .ok (.slice (some ⟨g, 0, none⟩) k k) w := by
  cases A with
  | none =>
    obtain rfl := hA rfl
    simp [Builtin.append_, run_underlying ht, sizeOf, typeInfo, hi, Builtin.lenOf, Builtin.firstCells, storeCells]
  | some ad =>
    have h := run_append_room_cells (P := P) w t ty e i ht hi g 0 k k ad 0 c [] (by simp) (fun j u hu => by simp at hu) (fun u hu => by cases hu) (by omega) (fun j hj => by simp at hj) (fun j hj => by simp at hj)
    rw [h]
    rfl
/-- append(literal, x...), x any bytes. -/
theorem wp_append_lit {P : Program} {w : World} {o : Oper} {a : Act} {K : Act → World → Prop} {Q : Exit → Act → World → Prop} (s x : Operand) (t : TypeId)
    (ho : o.op = .call { callee := .builtin .append, args := #[s, x], argTypes := #[t, t] })
    (i : TypeInfo) (ht : P.underlying t = some (.slice 5)) (hi : P.info? 5 = some i) (hz : i.zero = some (.int .u8 0)) (hsize : i.size = 1) (hby : i.bytes = 1)
    (g k : Nat) (zs : List Int) (B : Nat) (hs : a.eval s = .slice (some ⟨g, 0, none⟩) k k) (hB : B ≤ w.heap.size) (hl : zs.length = k) (hsee : Hid (Sees w B (some ⟨g, 0, none⟩) (cellsU8 zs))) (hk : k ≤ 100)
    (A : Option Addr) (m c : Nat) (bs : List Int) (hx : a.eval x = .slice A m c) (hbs : Hid (BsAt w w.heap.size A m c bs)) (hm : m ≤ 1048576)
    (h : ∀ v' w', Ext w.heap.size w' v' (k + m) (zs ++ bs) → Below w.heap.size w w' → K (a.put o.dst v') w') : o.wp P a w K Q := by
  rcases Nat.eq_zero_or_pos m with h0 | h0
  · subst h0
    have hb0 : bs = [] := List.eq_nil_of_length_eq_zero hbs.out.len
    subst hb0
    have hrun := run_append_empty (P := P) w (ty := o.type) ht hi g k c A hbs.out.nil_
    unfold Oper.wp
    simp [execOp, ho, resolve, invoke, builtin, hs, hx, hrun, Result.andThen]
    exact h _ w (by rw [List.append_nil]; exact .inr ⟨g, B, rfl, hB, hl, hsee.out⟩) (Below.refl _ _)
  · obtain ⟨ad, rfl, hsrc⟩ := hbs.out.see.src (by simp [cellsU8]; rw [hbs.out.len]; exact h0)
    obtain ⟨v', w', hrun, r1, r2⟩ := run_append_arg_grows (P := P) w t o.type 5 i (.int .u8 0) 1 1 ht hi hz hsize hby rfl (by decide) ⟨g, 0, none⟩ k k (cellsU8 zs) (by simp [cellsU8, hl]) (fun j u hj => by
      rw [WideShapes.add_plain, Nat.zero_add]
      obtain ⟨b', off', e, _, hc⟩ := hsee.out j u hj
      injection e with e
      injection e with e1 e2
      subst e1 e2
      rwa [Nat.zero_add] at hc) ad m c (cellsU8 bs) (by simp [cellsU8, hbs.out.len]) hsrc (by omega) (by unfold maxLen; omega) (by omega)
    unfold Oper.wp
    simp [execOp, ho, resolve, invoke, builtin, hs, hx, hrun, Result.andThen]
    exact h v' w' (.inl (by rw [cellsU8_app]; exact r1)) ((Below.refl _ _).grown r2 (Nat.le_refl _) (fun k hk => by cases hk))
/-- append of some bytes behind those. -/
theorem wp_append_ext {P : Program} {w : World} {o : Oper} {a : Act} {K : Act → World → Prop} {Q : Exit → Act → World → Prop} (s x : Operand) (t : TypeId)
    (ho : o.op = .call { callee := .builtin .append, args := #[s, x], argTypes := #[t, t] })
    (i : TypeInfo) (ht : P.underlying t = some (.slice 5)) (hi : P.info? 5 = some i) (hz : i.zero = some (.int .u8 0)) (hsize : i.size = 1) (hby : i.bytes = 1)
    (base n : Nat) (v : Value) (zs : List Int) (hs : a.eval s = v) (hE : Hid (Ext base w v n zs)) (hb : base ≤ w.heap.size) (hn : n ≤ 1048580)
    (g m c : Nat) (bs : List Int) (hx : a.eval x = .slice (some ⟨g, 0, none⟩) m c) (hl : bs.length = m) (hm : 1 ≤ m ∧ m ≤ 100) (hc : Hid (∀ j u, (cellsU8 bs)[j]? = some u → w.cell? ⟨g, j, none⟩ = some u))
    (h : ∀ v' w', w'.ownsRow base 5 1 v' (n + m) (cellsU8 (zs ++ bs)) → Below base w w' → K (a.put o.dst v') w') : o.wp P a w K Q := by
  have hc' : ∀ j u, (cellsU8 bs)[j]? = some u → w.cell? ((⟨g, 0, none⟩ : Addr).add j) = some u := fun j u hu => by rw [WideShapes.add_plain, Nat.zero_add]; exact hc.out j u hu
  have hlc : (cellsU8 bs).length = m * 1 := by simp [cellsU8, hl]
  rcases hE.out with ho' | ⟨g', B, rfl, hB, hzl, hsee⟩
  · refine wp_append_own w s x t ho base 5 i (.int .u8 0) 1 1 ht hi hz hsize hby rfl (by decide) v n (cellsU8 zs) hs ho' ⟨g, 0, none⟩ m c (cellsU8 bs) hx hlc hc' (one_u8 bs) (by unfold maxLen; omega) (by omega) hb fun v' w' h2 h3 _ => h v' w' (by rw [cellsU8_app]; exact h2) ?_
    exact (Below.refl base w).grown h3 hb (fun k hk => (ho'.lt k hk).1)
  · obtain ⟨v', w', hrun, r1, r2⟩ := run_append_arg_grows (P := P) w t o.type 5 i (.int .u8 0) 1 1 ht hi hz hsize hby rfl (by decide) ⟨g', 0, none⟩ n n (cellsU8 zs) (by simp [cellsU8, hzl]) (fun j u hj => by
      rw [WideShapes.add_plain, Nat.zero_add]
      obtain ⟨b', off', e, _, hcc⟩ := hsee j u hj
      injection e with e
      injection e with e1 e2
      subst e1 e2
      rwa [Nat.zero_add] at hcc) ⟨g, 0, none⟩ m c (cellsU8 bs) hlc hc' (by omega) (by unfold maxLen; omega) (by omega)
    unfold Oper.wp
    simp [execOp, ho, resolve, invoke, builtin, hs, hx, hrun, Result.andThen]
    exact h v' w' (by rw [cellsU8_app]; exact own_less r1 hb) ((Below.refl base w).grown r2 hb (fun k hk => by cases hk))
theorem wpList_append_lit {P : Program} {w : World} {ops : Array Oper} {rest : List Oper} {o : Oper} {a : Act} {Q : Exit → Act → World → Prop} (hgd : o.guard = none) (s x : Operand) (t : TypeId)
    (ho : o.op = .call { callee := .builtin .append, args := #[s, x], argTypes := #[t, t] })
    (i : TypeInfo) (ht : P.underlying t = some (.slice 5)) (hi : P.info? 5 = some i) (hz : i.zero = some (.int .u8 0)) (hsize : i.size = 1) (hby : i.bytes = 1)
    (g k : Nat) (zs : List Int) (B : Nat) (hs : a.eval s = .slice (some ⟨g, 0, none⟩) k k) (hB : B ≤ w.heap.size) (hl : zs.length = k) (hsee : Hid (Sees w B (some ⟨g, 0, none⟩) (cellsU8 zs))) (hk : k ≤ 100)
    (A : Option Addr) (m c : Nat) (bs : List Int) (hx : a.eval x = .slice A m c) (hbs : Hid (BsAt w w.heap.size A m c bs)) (hm : m ≤ 1048576)
    (h : ∀ v' w', Ext w.heap.size w' v' (k + m) (zs ++ bs) → Below w.heap.size w w' → wpList P ops Q rest (a.put o.dst v') w') : wpList P ops Q (o :: rest) a w :=
  wpList_plain hgd fun _ hK => wp_append_lit s x t ho i ht hi hz hsize hby g k zs B hs hB hl hsee hk A m c bs hx hbs hm fun v' w' h2 h3 => hK _ _ (h v' w' h2 h3)
theorem wpList_append_ext {P : Program} {w : World} {ops : Array Oper} {rest : List Oper} {o : Oper} {a : Act} {Q : Exit → Act → World → Prop} (hgd : o.guard = none) (s x : Operand) (t : TypeId)
    (ho : o.op = .call { callee := .builtin .append, args := #[s, x], argTypes := #[t, t] })
    (i : TypeInfo) (ht : P.underlying t = some (.slice 5)) (hi : P.info? 5 = some i) (hz : i.zero = some (.int .u8 0)) (hsize : i.size = 1) (hby : i.bytes = 1)
    (base n : Nat) (v : Value) (zs : List Int) (hs : a.eval s = v) (hE : Hid (Ext base w v n zs)) (hb : base ≤ w.heap.size) (hn : n ≤ 1048580)
    (g m c : Nat) (bs : List Int) (hx : a.eval x = .slice (some ⟨g, 0, none⟩) m c) (hl : bs.length = m) (hm : 1 ≤ m ∧ m ≤ 100) (hc : Hid (∀ j u, (cellsU8 bs)[j]? = some u → w.cell? ⟨g, j, none⟩ = some u))
    (h : ∀ v' w', w'.ownsRow base 5 1 v' (n + m) (cellsU8 (zs ++ bs)) → Below base w w' → wpList P ops Q rest (a.put o.dst v') w') : wpList P ops Q (o :: rest) a w :=
  wpList_plain hgd fun _ hK => wp_append_ext s x t ho i ht hi hz hsize hby base n v zs hs hE hb hn g m c bs hx hl hm hc fun v' w' h2 h3 => hK _ _ (h v' w' h2 h3)
/-- What decodes is what Encode gives. -/
theorem enc_dec {ys : List Int} (hz : Byt ys) (h : decE ys = 0) : encE (decF ys) = 0 ∧ encY (decF ys) = ys ∧ ys.length ≤ 1048576 ∧ ∀ f ∈ decF ys, ∀ x ∈ f.code, 0 ≤ x.imm ∧ x.imm ≤ 18446744073709551615 := by
  have h1 : (parseR ys).1 = 0 ∧ pgE (parseF ys) = 0 := by
    unfold decE at h
    by_cases hp : (parseR ys).1 = 0
    · rw [if_pos hp] at h; exact ⟨hp, h⟩
    · rw [if_neg hp] at h; exact absurd h hp
  have hF : decF ys = parseF ys := by unfold decF; rw [if_pos h]
  obtain ⟨e, hw, _, hl⟩ := parse_ok hz h1.1
  rw [hF]
  refine ⟨?_, e.symm, hl, fun f hf x hx => ((hw.2 f hf).cd x hx).m⟩
  unfold encE
  rw [if_neg (by simp [h1.2]), ← e, if_neg (by omega)]
end Go.Proofs.YtgcjckbndkddmaaDoor
end
