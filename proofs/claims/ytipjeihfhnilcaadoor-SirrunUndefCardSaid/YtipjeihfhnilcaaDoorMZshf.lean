import Derived.Test.YtipjeihfhnilcaaDoorMEpw
import Derived.Test.YtipjeihfhnilcaaDoorMPset
import Derived.Test.YtipjeihfhnilcaaDoorMDbody
import Derived.Test.YtipjeihfhnilcaaDoorMKit
import Derived.Orders
set_option linter.unusedVariables false
set_option linter.unusedSimpArgs false
section
/-
  The contract of spillframedraw.shifted: code behind one more instruction, in a row of the call's own. Conditions: one instruction at least, 1024 at most; the targets of jumps are small.
-/
namespace Go.Proofs.YtipjeihfhnilcaaDoor
open Go.RowKit

theorem info_instr5 : (Tryd.prog.info? 48).map (fun i => (i.zero, i.size, i.bytes)) = some (some (.agg #[.int .i64 0, .int .i64 0, .int .i64 0, .int .i64 0, .int .u64 0]), 5, 40) := by kernel_rfl
theorem set_same {l : List Ins} {k : Nat} {x : Ins} (h : l[k]? = some x) : l.set k x = l := by
  obtain ⟨hk, rfl⟩ := List.getElem?_eq_some_iff.1 h
  exact List.set_getElem_self hk
theorem sh_at {ys : List Ins} {k : Nat} {x : Ins} (h : ys[k]? = some x) : (shC (ys.take k) ++ ys.drop k)[k]? = some x := by
  have hk : k < ys.length := (List.getElem?_eq_some_iff.1 h).1
  have hl : (shC (ys.take k)).length = k := by rw [shC_length, List.length_take]; omega
  rw [List.getElem?_append_right (by omega), hl, Nat.sub_self, List.getElem?_drop, Nat.add_zero, h]
theorem sh_step {ys : List Ins} {k : Nat} {x : Ins} (h : ys[k]? = some x) : (shC (ys.take k) ++ ys.drop k).set k (shI x) = shC (ys.take (k + 1)) ++ ys.drop (k + 1) := by
  obtain ⟨hk, hx⟩ := List.getElem?_eq_some_iff.1 h
  have hl : (shC (ys.take k)).length = k := by rw [shC_length, List.length_take]; omega
  rw [List.set_append_right _ _ (by omega), hl, Nat.sub_self, List.drop_eq_getElem_cons hk, List.set_cons_zero, List.take_succ_eq_append_getElem hk, hx]
  simp [shC]
theorem sh_other {x : Ins} (h0 : x.op ≠ 20) (h1 : x.op ≠ 21) : shI x = x := by
  unfold shI
  rw [if_neg h0, if_neg h1]
theorem sh_len (ys : List Ins) (k : Nat) : (shC (ys.take k) ++ ys.drop k).length = ys.length := by
  rw [List.length_append, shC_length, List.length_take, List.length_drop]; omega

set_option maxHeartbeats 2000000 in
theorem shifted_any (A : Option Addr) (n c : Nat) (ys : List Ins) (B : Nat) (w : World) (hA : Hid (A = none → c = 0)) (hl : Hid (ys.length = n)) (hnc : Hid (n ≤ c)) (h1 : 1 ≤ n) (hn : n ≤ 1024) (hs : Hid (Sees w B A (icells ys))) (hb : Hid (∀ x ∈ ys, (x.op = 20 → 0 ≤ x.a ∧ x.a ≤ 1024) ∧ (x.op = 21 → 0 ≤ x.b ∧ x.b ≤ 1024))) :
    Calls Tryd.prog 26 #[.slice A n c] w fun e w' => ∃ G c', e = .returned (.slice (some ⟨G, 0, none⟩) n c') ∧ w'.ownsRow w.heap.size 48 5 (.slice (some ⟨G, 0, none⟩) n c') n (icells (shC ys)) ∧ w.grownBy w' none := by
  obtain ⟨j0, ji, jz0, jz1, jz2⟩ := info_parts info_instr5
  have HLN := hide (show (icells ys).length = n * 5 by rw [icells_length, hl.out])
  go_enter Tryd.func26, Tryd.ntmps26
  go_wp2_with (at_builtin; refine wpList_append_seesN rfl (.const (.slice none 0 0)) (.tmp 5) 49 rfl w.heap.size 48 j0 (.agg #[.int .i64 0, .int .i64 0, .int .i64 0, .int .i64 0, .int .u64 0]) 5 40 Tryd.underlying49 ji jz0 jz1 jz2 rfl (by decide) (.slice none 0 0) 0 [] rfl (World.ownsRow_nil _ _ _ _) B A n c (icells ys) rfl hA HLN hs hnc (icells_oneCell _) (by unfold maxLen; omega) (by omega) (Nat.le_refl _) ?_)
  intro v1 w1 ho0 hg1
  have ho1 : w1.ownsRow w.heap.size 48 5 v1 n (icells ys) := by simpa using ho0
  obtain ⟨G, c9, rfl, hG1, -, -, -⟩ := own_block ho1 (by omega)
  have HO1 := hide (show w1.ownsRow w.heap.size 48 5 (.slice (some ⟨G, 0, none⟩) n c9) n (icells (shC (ys.take 0) ++ ys.drop 0)) by simpa [shC] using ho1)
  have HG1 := hide (show w.grownBy w1 none from (World.grownBy.refl w none).andThen hg1 (fun k hk => by cases hk))
  clear ho0 ho1 hg1 HLN
  go_wp2_with fail
  go_loopw [4] (fun s wr => ∃ k : Nat, k ≤ n ∧ s = .int .i64 k ∧ Hid (wr.ownsRow w.heap.size 48 5 (.slice (some ⟨G, 0, none⟩) n c9) n (icells (shC (ys.take k) ++ ys.drop k))) ∧ Hid (w.grownBy wr none)) (fun s _ => n - (intOf s).toNat)
  case atStart => exact ⟨0, by omega, rfl, HO1, HG1⟩
  case round =>
    obtain ⟨k, hk, rfl, HO, HG⟩ := hrel
    by_cases hlt : k < n
    · have hkl : k < ys.length := by have := hl.out; omega
      have hx := List.getElem?_eq_getElem hkl
      have hbx := hb.out _ (List.getElem_mem hkl)
      obtain ⟨x, hxe⟩ : ∃ x, ys[k] = x := ⟨_, rfl⟩
      rw [hxe] at hx hbx
      have HX := hide hx
      have HAT := hide (sh_at hx)
      have HST := hide (sh_step hx)
      obtain ⟨⟨x0, x1, x2, x3, x4⟩, hfz⟩ := ins_row HO.out HAT.out
      obtain ⟨o, a, b, d, m⟩ := x
      simp only at x0 x1 x2 x3 x4
      have hkz : (0 : Int) ≤ (k : Int) := by omega
      have hkz' : (k : Int) < (n : Int) := by omega
      have hGl := (HO.out.lt G rfl).2
      have z1 := hfz (k * 5 + 1)
      have z2 := hfz (k * 5 + 2)
      clear hx hxe hfz
      by_cases h20 : o = 20
      · subst h20
        have hab := hbx.1 rfl
        simp only at hab
        have e1 : IntKind.i64.wrap (a + 1) = a + 1 := wrap_i64 _ (by omega) (by omega)
        have hst := HO.out.stored (k * 5 + 1) (.int .i64 (a + 1))
        have HO2 := hide (show _root_.Go.World.ownsRow _ w.heap.size 48 5 (.slice (some ⟨G, 0, none⟩) n c9) n (icells (shC (ys.take (k + 1)) ++ ys.drop (k + 1))) by have h := hst.1; rw [iset1 HAT.out] at h; rw [← HST.out]; exact h)
        have HG2 := hide (HG.out.andThen hst.2 (fun q hq => .inl (by injection hq with hq; omega)))
        clear hst hbx
        go_wp2_with fail
        go_roundw
        case rel => exact ⟨k + 1, by omega, by go_num, HO2, HG2⟩
        case measure => simp [intOf]; omega
      · have b20 : (o == 20) = false := by simpa using h20
        by_cases h21 : o = 21
        · subst h21
          have hab := hbx.2 rfl
          simp only at hab
          have e1 : IntKind.i64.wrap (b + 1) = b + 1 := wrap_i64 _ (by omega) (by omega)
          have hst := HO.out.stored (k * 5 + 2) (.int .i64 (b + 1))
          have HO2 := hide (show _root_.Go.World.ownsRow _ w.heap.size 48 5 (.slice (some ⟨G, 0, none⟩) n c9) n (icells (shC (ys.take (k + 1)) ++ ys.drop (k + 1))) by have h := hst.1; rw [iset2 HAT.out] at h; rw [← HST.out]; exact h)
          have HG2 := hide (HG.out.andThen hst.2 (fun q hq => .inl (by injection hq with hq; omega)))
          clear hst hbx b20 h20
          go_wp2_with fail
          go_roundw
          case rel => exact ⟨k + 1, by omega, by go_num, HO2, HG2⟩
          case measure => simp [intOf]; omega
        · have b21 : (o == 21) = false := by simpa using h21
          have HO2 := hide (show wr.ownsRow w.heap.size 48 5 (.slice (some ⟨G, 0, none⟩) n c9) n (icells (shC (ys.take (k + 1)) ++ ys.drop (k + 1))) by
            rw [← HST.out, sh_other h20 h21, set_same HAT.out]
            exact HO.out)
          clear hbx h20 h21
          go_wp2_with fail
          go_roundw
          case rel => exact ⟨k + 1, by omega, by go_num, HO2, HG⟩
          case measure => simp [intOf]; omega
    · obtain rfl : k = n := by omega
      have HE := hide (show wr.ownsRow w.heap.size 48 5 (.slice (some ⟨G, 0, none⟩) k c9) k (icells (shC ys)) by
        have h := HO.out
        rwa [List.take_of_length_le (by have := hl.out; omega), List.drop_of_length_le (by have := hl.out; omega), List.append_nil] at h)
      go_wp2_with fail
      go_ret
      exact ⟨G, c9, rfl, HE.out, HG.out⟩
end Go.Proofs.YtipjeihfhnilcaaDoor
end

section
/-
  Boxes, one behind the other. No function of the program is named here.
-/
namespace Go.Proofs.YtipjeihfhnilcaaDoor
open Go.RowKit

theorem below4 (w : World) (o p q r : Obj) : Below w.heap.size w ((((w.alloc o).alloc p).alloc q).alloc r) := (below3 w o p q).alloc (by simp; omega) _
/-- Three boxes, one behind the other. -/
theorem boxes3 (w : World) (l1 l2 l3 : List Value) (t1 t2 t3 : TypeId) : ∃ W, ((w.alloc (.cells l1.toArray t1)).alloc (.cells l2.toArray t2)).alloc (.cells l3.toArray t3) = W ∧ Below w.heap.size w W ∧ w.heap.size + 3 = W.heap.size ∧
    Row W w.heap.size t1 l1 ∧ Row W (w.heap.size + 1) t2 l2 ∧ Row W (w.heap.size + 1 + 1) t3 l3 := by
  refine ⟨_, rfl, below3 _ _ _ _, by simp, ((Row.new w t1 l1).alloc _).alloc _, (Row.alloc ?_ _), ?_⟩
  · exact heap_at _ _ (by simp)
  · exact heap_at _ _ (by simp)

/-- Four boxes, one behind the other. -/
theorem boxes4 (w : World) (l1 l2 l3 l4 : List Value) (t1 t2 t3 t4 : TypeId) : ∃ W, (((w.alloc (.cells l1.toArray t1)).alloc (.cells l2.toArray t2)).alloc (.cells l3.toArray t3)).alloc (.cells l4.toArray t4) = W ∧ Below w.heap.size w W ∧ w.heap.size + 4 = W.heap.size ∧
    Row W w.heap.size t1 l1 ∧ Row W (w.heap.size + 1) t2 l2 ∧ Row W (w.heap.size + 1 + 1) t3 l3 ∧ Row W (w.heap.size + 1 + 1 + 1) t4 l4 := by
  refine ⟨_, rfl, below4 _ _ _ _ _, by simp, (((Row.new w t1 l1).alloc _).alloc _).alloc _, (Row.alloc (Row.alloc ?_ _) _), (Row.alloc ?_ _), ?_⟩
  · exact heap_at _ _ (by simp)
  · exact heap_at _ _ (by simp)
  · exact heap_at _ _ (by simp)

/-- Two boxes, one behind the other. -/
theorem boxes2q (w : World) (l1 l2 : List Value) (t1 t2 : TypeId) : ∃ W, (w.alloc (.cells l1.toArray t1)).alloc (.cells l2.toArray t2) = W ∧ Below w.heap.size w W ∧ w.heap.size + 2 = W.heap.size ∧ Row W w.heap.size t1 l1 ∧ Row W (w.heap.size + 1) t2 l2 := by
  refine ⟨_, rfl, below2 _ _ _, by simp, (Row.new w t1 l1).alloc _, ?_⟩
  exact heap_at _ _ (by simp)
end Go.Proofs.YtipjeihfhnilcaaDoor
end

section
/-
  A region whose order is open, by an invariant: if each operation that may come up keeps it, it holds at the end, whatever the order. No function of the program is named here.
-/
namespace Go.Proofs.YtipjeihfhnilcaaDoor
open Go.RowKit

theorem countP_lt {α : Type} {p q : α → Bool} : ∀ {xs : List α} {i : α}, (∀ x ∈ xs, q x = true → p x = true) → i ∈ xs → p i = true → q i = false → xs.countP q < xs.countP p := by
  intro xs
  induction xs with
  | nil => intro i _ hi; cases hi
  | cons y r ih =>
    intro i h hi hp hq
    have hle : r.countP q ≤ r.countP p := List.countP_mono_left fun x hx => h x (List.mem_cons_of_mem _ hx)
    rw [List.countP_cons, List.countP_cons]
    rcases List.mem_cons.1 hi with rfl | hi
    · rw [hp, hq]; simp; omega
    · have := ih (fun x hx => h x (List.mem_cons_of_mem _ hx)) hi hp hq
      have hy := h y List.mem_cons_self
      cases e : q y with
      | false => simp; split <;> omega
      | true => rw [hy e]; simp; omega

theorem getD_set (l : Array Bool) (i j : Nat) : (l.setIfInBounds i true).getD j true = (decide (i = j) || l.getD j true) := by
  simp only [Array.getD_eq_getD_getElem?, Array.getElem?_setIfInBounds]
  by_cases e : i = j
  · subst e
    by_cases h : i < l.size <;> simp [h]
  · simp [e]

/-- How many operations have not come up. -/
def leftOf (n : Nat) (l : Array Bool) : Nat := (List.range n).countP fun i => !l.getD i true
theorem leftOf_set {ops : Array Oper} {md : Region.Mode} {l : Array Bool} {i : Nat} (hi : i ∈ Region.ready md ops l) : leftOf ops.size (l.setIfInBounds i true) < leftOf ops.size l := by
  unfold Region.ready at hi
  obtain ⟨h1, h2⟩ := List.mem_filter.1 hi
  simp only [Bool.and_eq_true, Bool.not_eq_true'] at h2
  refine countP_lt (i := i) (fun x _ hx => ?_) h1 (by simp [h2.1]) (by simp)
  simp only [getD_set, Bool.not_or, Bool.and_eq_true] at hx
  exact hx.2
theorem ready_none {ops : Array Oper} {md : Region.Mode} {l : Array Bool} (h : leftOf ops.size l = 0) : Region.ready md ops l = [] := by
  unfold Region.ready
  refine List.filter_eq_nil_iff.2 fun x hx => ?_
  have := List.countP_eq_zero.1 h x hx
  simp only [Bool.not_eq_true, Bool.not_eq_false'] at this
  simp [this]

theorem wpAny_inv {P : Program} {Q : Exit → Act → World → Prop} {ops : Array Oper} (I : Array Bool → Act → World → Prop)
    (hs : ∀ l a w, I l a w → ∀ i ∈ Region.ready .any ops l, ∀ K : Act → World → Prop, (∀ a' w', I (l.setIfInBounds i true) a' w' → K a' w') → wpOp P ops Q i K a w)
    (he : ∀ l a w, I l a w → Region.ready .any ops l = [] → Q .normal a w) : ∀ (fuel : Nat) (l : Array Bool) (a : Act) (w : World), I l a w → leftOf ops.size l ≤ fuel → wpAny P .any ops Q fuel l a w := by
  intro fuel
  induction fuel with
  | zero => exact fun l a w h hl => ⟨ready_none (by omega), he l a w h (ready_none (by omega))⟩
  | succ fuel ih =>
    intro l a w h hl
    refine ⟨he l a w h, fun i hi => hs l a w h i hi _ fun a' w' h' => ih _ _ _ h' ?_⟩
    have := leftOf_set hi
    omega

theorem wp_region_inv {P : Program} {id : Nat} {Q : Exit → Act → World → Prop} {a : Act} {w : World} {ops : Array Oper} (hm : P.follows .mixedOrders = true) (I : Array Bool → Act → World → Prop)
    (h0 : I (Array.replicate ops.size false) a w.drew)
    (hs : ∀ l a w, I l a w → ∀ i ∈ Region.ready .any ops l, ∀ K : Act → World → Prop, (∀ a' w', I (l.setIfInBounds i true) a' w' → K a' w') → wpOp P ops Q i K a w)
    (he : ∀ l a w, I l a w → Region.ready .any ops l = [] → Q .normal a w) : (Code.region id ops true).wp P Q a w :=
  wp_region_any hm (wpAny_inv I hs he _ _ _ _ h0 (Nat.le_trans List.countP_le_length (by simp)))

/-- An operation without a guard. -/
theorem wpOp_plain {P : Program} {Q : Exit → Act → World → Prop} {ops : Array Oper} {i : Nat} {o : Oper} {K : Act → World → Prop} {a : Act} {w : World} (hi : ops[i]? = some o) (hg : o.guard = none) (h : o.wp P a w K Q) : wpOp P ops Q i K a w := by
  unfold wpOp
  simp only [hi]
  rw [if_pos (by simp [Region.wanted, hg])]
  exact .inl h
/-- What may come up has not come up, and what it waits for has. -/
theorem ready_of {ops : Array Oper} {l : Array Bool} {i : Nat} (hi : i ∈ Region.ready .any ops l) : l.getD i true = false ∧ ∃ o, ops[i]? = some o ∧ o.after.all (fun e => !Region.binds .any e || l.getD e.on false) = true := by
  unfold Region.ready at hi
  obtain ⟨_, h2⟩ := List.mem_filter.1 hi
  simp only [Bool.and_eq_true, Bool.not_eq_true'] at h2
  cases ho : ops[i]? with
  | none => rw [ho] at h2; simp at h2
  | some o => rw [ho] at h2; exact ⟨h2.1, o, rfl, by simpa using h2.2⟩
theorem ready_lt {ops : Array Oper} {l : Array Bool} {i : Nat} (hi : i ∈ Region.ready .any ops l) : i < ops.size := by
  unfold Region.ready at hi
  exact List.mem_range.1 (List.mem_filter.1 hi).1
theorem ready_mk {ops : Array Oper} {l : Array Bool} {i : Nat} {o : Oper} (ho : ops[i]? = some o) (h : l.getD i true = false) (ha : o.after.all (fun e => !Region.binds .any e || l.getD e.on false) = true) : i ∈ Region.ready .any ops l := by
  unfold Region.ready
  refine List.mem_filter.2 ⟨List.mem_range.2 (Array.getElem?_eq_some_iff.1 ho).1, ?_⟩
  rw [ho]
  simp only [Option.map_some, Option.getD_some, h, ha, Bool.not_false, Bool.and_self]
theorem ready_no {ops : Array Oper} {l : Array Bool} {i : Nat} {o : Oper} (hr : Region.ready .any ops l = []) (ho : ops[i]? = some o) (h : l.getD i true = false) (ha : o.after.all (fun e => !Region.binds .any e || l.getD e.on false) = true) : False := by
  have := ready_mk ho h ha
  rw [hr] at this
  cases this
end Go.Proofs.YtipjeihfhnilcaaDoor
end
