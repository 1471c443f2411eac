import Derived.Test.YtipjeihfhnilcaaDoorMZshf
import Derived.Test.YtipjeihfhnilcaaDoorMNca
import Derived.Test.YtipjeihfhnilcaaDoorMVapply
import Derived.Deep.Quiet
import Derived.Deep.RegionHeld3
set_option linter.unusedVariables false
set_option linter.unusedSimpArgs false
section
/-
  A region whose order is open, and whose last operation waits for all the others: the others are walked once, in a class of worlds; then the last one. No function of the program is named here.
-/
namespace Go.Proofs.YtipjeihfhnilcaaDoor
open Go.RowKit

/-- No operation has a guard; each waits for earlier ones alone; each but the last is waited for by a later one. -/
def chainB (ops : Array Oper) (m : Nat) : Bool :=
  (List.range (m + 1)).all (fun i => match ops[i]? with
    | none => false
    | some o => o.guard.isNone && o.after.all (fun e => !Region.binds .any e || decide (e.on < i))) &&
  (List.range m).all (fun i => (List.range (m + 1)).any (fun j => decide (i < j) && (match ops[j]? with
    | none => false
    | some o => o.after.any (fun e => Region.binds .any e && decide (e.on = i)))))
section
variable {P : Program} {ops : Array Oper} {C : World → Prop} {m : Nat}
theorem chain_op (h : chainB ops m = true) {i : Nat} (hi : i ≤ m) : ∃ o, ops[i]? = some o ∧ o.guard = none ∧ ∀ e ∈ o.after, Region.binds .any e = true → e.on < i := by
  unfold chainB at h
  rw [Bool.and_eq_true] at h
  have h1 := List.all_eq_true.1 h.1 i (List.mem_range.2 (by omega))
  cases ho : ops[i]? with
  | none => rw [ho] at h1; cases h1
  | some o =>
    rw [ho] at h1
    simp only [Bool.and_eq_true, Option.isNone_iff_eq_none] at h1
    refine ⟨o, rfl, h1.1, fun e he hb => ?_⟩
    have h3 := h1.2
    rw [← Array.all_toList, List.all_eq_true] at h3
    have := h3 e (by simpa using he)
    rw [hb] at this
    simpa using this
theorem chain_use (h : chainB ops m = true) {i : Nat} (hi : i < m) : ∃ j o, i < j ∧ j ≤ m ∧ ops[j]? = some o ∧ ∃ e ∈ o.after, Region.binds .any e = true ∧ e.on = i := by
  unfold chainB at h
  rw [Bool.and_eq_true] at h
  have h1 := List.all_eq_true.1 h.2 i (List.mem_range.2 hi)
  obtain ⟨j, hj, h2⟩ := List.any_eq_true.1 h1
  rw [Bool.and_eq_true, decide_eq_true_eq] at h2
  cases ho : ops[j]? with
  | none => rw [ho] at h2; cases h2.2
  | some o =>
    rw [ho] at h2
    have h3 := h2.2
    dsimp only at h3
    rw [← Array.any_toList] at h3
    obtain ⟨e, he, h4⟩ := List.any_eq_true.1 h3
    rw [Bool.and_eq_true, decide_eq_true_eq] at h4
    exact ⟨j, o, h2.1, by have := List.mem_range.1 hj; omega, ho, e, by simpa using he, h4.1, h4.2⟩
/-- The lexical walk of the first operations. -/
theorem wpAnyQ_pre {md : Region.Mode} {Q : Act → Prop} (hs : Region.noSelect ops = true) : ∀ (l : List Oper) (k : Nat) (listed : Array Bool) (a : Act), (∀ j, j < l.length → l[j]? = ops[k + j]?) →
    Region.lexFrom md ops l.length k listed = true → wpQuiet P ops C Q l a → wpAnyQ P md ops C Q l.length listed a
  | [], _, _, _, _, hB, h => ⟨by simpa [Region.lexFrom] using hB, h⟩
  | o :: l, k, listed, a, hl, hB, h => by
    have h0 : ops[k]? = some o := by simpa using (hl 0 (by simp)).symm
    simp only [List.length_cons, Region.lexFrom, Bool.and_eq_true] at hB
    obtain ⟨⟨hr, hf⟩, hB'⟩ := hB
    have hst : qOp P ops C k (wpQuiet P ops C Q l) a := by unfold qOp; simp only [h0]; exact h
    obtain ⟨v, hy, hK⟩ := yieldsIn_of_qOp h0 hst
    exact wpAnyQ_first h0 (Region.noSelect_spec hs) l.length listed a (Region.free_spec h0 hf) (by simpa using hr) hy
      (wpAnyQ_pre hs l (k + 1) _ _ (fun j hj => by have := hl (j + 1) (by simp; omega); simpa [Nat.add_assoc, Nat.add_comm 1 j] using this) hB' hK)
/-- What has come up waits for nothing. -/
def ClosedL (ops : Array Oper) (listed : Array Bool) : Prop := ∀ i o, ops[i]? = some o → listed.getD i false = true → ∀ e ∈ o.after, Region.binds .any e = true → listed.getD e.on false = true
theorem getD_true {l : Array Bool} {i : Nat} (hi : i < l.size) (h : l.getD i true = true) : l.getD i false = true := by
  simp [Array.getD_eq_getD_getElem?, hi] at h ⊢
  exact h
theorem all_listed (h : chainB ops m = true) {listed : Array Bool} (hc : ClosedL ops listed) {o : Oper} (ho : ops[m]? = some o) (hr : ∀ e ∈ o.after, Region.binds .any e = true → listed.getD e.on false = true) : ∀ (n i : Nat), m - i ≤ n → i < m → listed.getD i false = true := by
  intro n
  induction n with
  | zero => intro i h1 h2; omega
  | succ n ih =>
    intro i h1 h2
    obtain ⟨j, oj, hij, hjm, hoj, e, he, hb, hei⟩ := chain_use h h2
    rw [← hei]
    by_cases hj : j = m
    · subst hj
      rw [ho] at hoj
      injection hoj with hoj
      subst hoj
      exact hr e he hb
    · exact hc j oj hoj (ih j (by omega) (by omega)) e he hb
theorem none_ready (h : chainB ops m = true) {listed : Array Bool} (hsz : listed.size = ops.size) (hm : ops.size = m + 1) (hr : Region.ready .any ops listed = []) : ∀ (n i : Nat), i < n → i ≤ m → listed.getD i false = true := by
  intro n
  induction n with
  | zero => intro i h1 _; omega
  | succ n ih =>
    intro i h1 h2
    by_cases hl : listed.getD i true = true
    · exact getD_true (by omega) hl
    · obtain ⟨o, ho, _, ha⟩ := chain_op h h2
      exfalso
      have : i ∈ Region.ready .any ops listed := mem_ready.2 ⟨by simpa using hl, o, ho, fun e he hb => ih e.on (by have := ha e he hb; omega) (by have := ha e he hb; omega)⟩
      rw [hr] at this
      cases this
theorem getD_set_f {l : Array Bool} {i j : Nat} (h : i ≠ j) (d : Bool) : (l.setIfInBounds i true).getD j d = l.getD j d := by
  simp [Array.getD_eq_getD_getElem?, Array.getElem?_setIfInBounds, h]
theorem wp_region_last {id : Nat} {Q : Exit → Act → World → Prop} {a : Act} {w : World} {o : Oper} (m : Nat) (hm : P.follows .mixedOrders = true) (hn : ops.size = m + 1) (ho : ops[m]? = some o) (hs : Region.noSelect ops = true)
    (hB : Region.lexFrom .any ops m 0 ((Array.replicate ops.size false).setIfInBounds m true) = true) (hch : chainB ops m = true) (hC : C w.drew)
    (h : wpQuiet P ops C (fun a' => ∀ w', C w' → wpList P #[o] Q [o] a' w') (ops.toList.take m) a) : (Code.region id ops true).wp P Q a w := by
  have hlen : (ops.toList.take m).length = m := by rw [List.length_take, Array.length_toList]; omega
  have hpre := wpAnyQ_pre (md := .any) hs (ops.toList.take m) 0 ((Array.replicate ops.size false).setIfInBounds m true) a (fun j hj => by rw [List.getElem?_take, if_pos (by omega), Nat.zero_add]; simp) (by rw [hlen]; exact hB) h
  obtain ⟨_, _, hgm, _⟩ := (⟨o, ho, (by obtain ⟨o', h1, h2, _⟩ := chain_op hch (Nat.le_refl m); rw [ho] at h1; injection h1 with h1; rw [h1]; exact h2 : o.guard = none), trivial⟩ : ∃ o', ops[m]? = some o' ∧ o.guard = none ∧ True)
  let K : Act → Prop := fun a' => ∀ w', C w' → wpList P #[o] Q [o] a' w'
  refine wp_region_inv hm (fun listed a w => listed.size = ops.size ∧ ((listed.getD m true = false ∧ ClosedL ops listed ∧ C w ∧ ∃ fuel, wpAnyQ P .any ops C K fuel (listed.setIfInBounds m true) a) ∨ (Region.ready .any ops listed = [] ∧ Q .normal a w))) ?_ ?_ ?_
  · refine ⟨by simp, .inl ⟨?_, ?_, hC, _, hpre⟩⟩
    · simp [Array.getD_eq_getD_getElem?, hn]
    · intro i o' _ hl
      exfalso
      simp [Array.getD_eq_getD_getElem?] at hl
      by_cases hi : i < ops.size <;> simp [hi, Array.getElem?_replicate] at hl
  · rintro l a w ⟨hsz, ⟨hlm, hcl, hCw, fuel, hq⟩ | ⟨hr, _⟩⟩ i hi K2 hK2
    · by_cases him : i = m
      · subst him
        obtain ⟨_, o', ho', hall⟩ := mem_ready.1 hi
        rw [ho] at ho'
        injection ho' with ho'
        subst ho'
        have hal : ∀ j, j < i → l.getD j false = true := fun j hj => all_listed hch hcl ho hall _ j (Nat.le_refl _) hj
        have hnr : Region.ready .any ops (l.setIfInBounds i true) = [] := by
          refine List.eq_nil_iff_forall_not_mem.2 fun j hj => ?_
          obtain ⟨hj1, oj, hoj, _⟩ := mem_ready.1 hj
          have hjn : j < ops.size := (Array.getElem?_eq_some_iff.1 hoj).1
          by_cases hji : i = j
          · subst hji
            simp [Array.getD_eq_getD_getElem?, hsz, hjn] at hj1
          · rw [getD_set_f hji] at hj1
            have := hal j (by omega)
            simp [Array.getD_eq_getD_getElem?, hsz, hjn] at hj1 this
            rw [this] at hj1
            cases hj1
        have hKa : K a := by
          cases fuel with
          | zero => exact hq.2
          | succ fuel => exact hq.1 hnr
        have h1 := hKa w hCw
        unfold wpList at h1
        unfold wpOp
        simp only [ho]
        have hw : ∀ x, Region.wanted o x = true := fun x => by simp [Region.wanted, hgm]
        rw [if_pos (hw _)] at h1 ⊢
        rcases h1 with h1 | h1
        · exact .inl (Oper.wp_mono (fun a' w' h2 => hK2 a' w' ⟨by simpa using hsz, .inr ⟨hnr, h2⟩⟩) h1)
        · exact .inr h1
      · have hi2 := ready_mono hi him
        cases fuel with
        | zero => rw [hq.1] at hi2; cases hi2
        | succ fuel =>
          have h1 := hq.2 i hi2
          refine wpOp_of_qOp hCw (fun a' w' hC' h2 => hK2 a' w' ⟨by simpa using hsz, .inl ⟨?_, ?_, hC', fuel, ?_⟩⟩) h1
          · rw [getD_set_f him]; exact hlm
          · intro j oj hoj hl e he hb
            obtain ⟨_, oi, hoi, hall⟩ := mem_ready.1 hi
            have key : l.getD e.on false = true := by
              by_cases hij : i = j
              · subst hij
                rw [hoi] at hoj
                injection hoj with hoj
                subst hoj
                exact hall e he hb
              · rw [getD_set_f hij] at hl
                exact hcl j oj hoj hl e he hb
            exact getD_set_true key
          · rw [Array.setIfInBounds_comm _ _ him]; exact h2
    · rw [hr] at hi; cases hi
  · rintro l a w ⟨hsz, ⟨hlm, hcl, hCw, fuel, hq⟩ | ⟨_, h2⟩⟩ hr
    · have := none_ready hch hsz hn hr (m + 1) m (by omega) (Nat.le_refl _)
      simp [Array.getD_eq_getD_getElem?, hsz, hn] at hlm this
      rw [hlm] at this
      cases this
    · exact h2
end
end Go.Proofs.YtipjeihfhnilcaaDoor
end

section
/-
  The contracts of the core's Next, read and apply. Conditions: those of the types.
-/
namespace Go.Proofs.YtipjeihfhnilcaaDoor
open Go.RowKit

section
variable {g base fu : Nat} {T : TypeId} {vi vt : Value} {rest : List Value} {c : Co}
set_option maxRecDepth 100000 in
set_option maxHeartbeats 2000000 in
theorem coNext_any (op a b d m : Int) (at_ : Int) (w : World) (ha : -1000000 ≤ at_ ∧ at_ ≤ 1000000) (h : Hid (CoAt w g base T fu vi vt rest c)) :
    Calls Tryd.prog 39 #[.pointer (some ⟨g, 0, none⟩), iv op a b d m, .int .i64 at_] w fun e w' => e = .returned (.int .i64 (c.next ⟨op, a, b, d, m⟩ at_)) ∧ Below w.heap.size w w' := by
  obtain ⟨W1, hW1⟩ : ∃ W, w.alloc (.cells #[.int .i64 op, .int .i64 a, .int .i64 b, .int .i64 d, .int .u64 m] 48) = W := ⟨_, rfl⟩
  have HW1 := hide hW1
  have R1 := hide (show Row W1 w.heap.size 48 [.int .i64 op, .int .i64 a, .int .i64 b, .int .i64 d, .int .u64 m] by rw [← hW1]; exact Row.new w _ _)
  have H1 := hide (show CoAt W1 g base T fu vi vt rest c by rw [← hW1]; exact h.out.alloc _)
  have B1 := hide (show Below w.heap.size w W1 by rw [← hW1]; exact below1 w _)
  have x0 := R1.out.cell (k := 0) rfl
  have x1 := R1.out.cell (k := 1) rfl
  have x2 := R1.out.cell (k := 2) rfl
  clear hW1
  by_cases h20 : op = 20
  · subst h20
    rw [show c.next ⟨20, a, b, d, m⟩ at_ = a from rfl]
    go_enter Tryd.func39, Tryd.ntmps39
    go_upto_region 1 with (fail)
    rw [HW1.out]
    go_wp2_with fail
    go_ret
    exact ⟨rfl, B1.out⟩
  · have e20 : (op == 20) = false := by rw [beq_eq_false_iff_ne]; exact h20
    have hw : IntKind.i64.wrap (at_ + 1) = at_ + 1 := by rw [IntKind.wrap_i64]; omega
    by_cases h21 : op = 21
    · subst h21
      obtain ⟨V, hV⟩ : ∃ V, c.reg a = V := ⟨_, rfl⟩
      have cr := fun W hW => coReg_any (g := g) (base := base) (T := T) (fu := fu) (vi := vi) (vt := vt) (rest := rest) (c := c) a W hW
      rw [hV] at cr
      have hfi : ∀ w, (Instr.field 33 (vv V) 0).run Tryd.prog w = .ok (.int .u64 (lo V)) w := fun w => by kernel_rfl
      by_cases h0 : V % 18446744073709551616 = 0
      · have e : c.next ⟨21, a, b, d, m⟩ at_ = at_ + 1 := by unfold Co.next; rw [if_neg (show ¬ (21 : Int) = 20 by decide), if_neg (fun hh => hh.2 (by show c.reg a % _ = 0; rw [hV]; exact h0))]
        have hl : (lo V != 0) = false := by unfold lo; rw [h0]; rfl
        rw [e]
        clear hV e h0 e20
        go_enter Tryd.func39, Tryd.ntmps39
        go_upto_region 1 with (fail)
        rw [HW1.out]
        go_wp2_with fail
        refine (cr _ H1).mono ?_
        rintro e w2 ⟨rfl, hb2⟩
        have B2 := hide (below_call B1.out hb2)
        clear hb2 cr x0 x1 x2
        go_wp2_with fail
        go_ret
        exact ⟨rfl, B2.out⟩
      · have e : c.next ⟨21, a, b, d, m⟩ at_ = b := by unfold Co.next; rw [if_neg (show ¬ (21 : Int) = 20 by decide), if_pos ⟨rfl, show ¬ c.reg a % 18446744073709551616 = 0 by rw [hV]; exact h0⟩]
        have hl : (lo V != 0) = true := by rw [bne_iff_ne]; unfold lo; omega
        rw [e]
        clear hV e h0 e20 hw
        go_enter Tryd.func39, Tryd.ntmps39
        go_upto_region 1 with (fail)
        rw [HW1.out]
        go_wp2_with fail
        refine (cr _ H1).mono ?_
        rintro e w2 ⟨rfl, hb2⟩
        have B2 := hide (below_call B1.out hb2)
        have y2 := (R1.out.call hb2).cell (k := 2) rfl
        clear hb2 cr x0 x1 x2
        go_wp2_with fail
        go_ret
        exact ⟨rfl, B2.out⟩
    · have e21 : (op == 21) = false := by rw [beq_eq_false_iff_ne]; exact h21
      have e : c.next ⟨op, a, b, d, m⟩ at_ = at_ + 1 := by unfold Co.next; rw [if_neg h20, if_neg (fun h => h21 h.1)]
      rw [e]
      clear e h20 h21
      go_enter Tryd.func39, Tryd.ntmps39
      go_upto_region 1 with (fail)
      rw [HW1.out]
      go_wp2_with fail
      go_ret
      exact ⟨rfl, B1.out⟩
set_option maxHeartbeats 4000000 in
theorem coread_any (w : World) (h : Hid (CoAt w g base T fu vi vt rest c)) :
    Calls Tryd.prog 56 #[.pointer (some ⟨g, 0, none⟩)] w fun e w' => e = .returned (.int .u64 ((c.inp.headD 0 : Nat) : Int)) ∧ (∃ vi', CoAt w' g base T fu vi' vt rest { c with inp := c.inp.tail }) ∧ JKp w w' g vt vt := by
  obtain ⟨A, n, k, rfl, hl, hnc, hcm, hA, hs⟩ := h.out.inp
  have HL := hide hl
  have c0 := h.out.far 0 rfl
  cases hin : c.inp with
  | nil =>
    obtain rfl : n = 0 := by rw [← hl, hin]; rfl
    have FIN := hide (show CoAt w g base T fu (.slice A 0 k) vt rest { c with inp := ([] : List Nat).tail } by rw [show ({ c with inp := ([] : List Nat).tail } : Co) = c by rw [← hin]; simp [hin]; rw [← hin]]; exact h.out)
    clear hl hs hin
    go_enter Tryd.func56, Tryd.ntmps56
    go_wp2_with fail
    go_ret
    exact ⟨rfl, ⟨_, FIN.out⟩, JKp.refl _ _ _⟩
  | cons v r =>
    obtain ⟨j, rfl⟩ : ∃ j, n = j + 1 := ⟨r.length, by rw [← hl, hin]; rfl⟩
    have hrk : r.length = j := by rw [hin] at hl; simpa using hl
    rw [hin] at hs
    obtain ⟨b, off, rfl, hb, hc⟩ := hs 0 (.int .u64 (v : Int)) rfl
    rw [Nat.add_zero] at hc
    have HS := hide hs
    have HIN := hide hin
    have hk0 : ¬ ((j : Int) + 1 = 0) := by omega
    have z0 := h.out.row.free 0
    clear hl hs hin
    by_cases hc1 : k = 1
    · subst hc1
      have hk : j = 0 := by omega
      subst hk
      have hr : r = [] := List.eq_nil_of_length_eq_zero hrk
      subst hr
      have q := hide (h.out.store 0 (.slice (some ⟨b, off, none⟩) 0 0) (c' := { c with inp := [] }) (vi' := .slice (some ⟨b, off, none⟩) 0 0) (fu' := fu) (rest' := rest) rfl ⟨_, _, _, rfl, rfl, Nat.le_refl _, by omega, fun _ => rfl, Sees.nil_ _ _ _⟩ rfl h.out.r8)
      go_enter Tryd.func56, Tryd.ntmps56
      go_wp2_with fail
      go_ret
      exact ⟨rfl, ⟨_, q.out⟩, JKp.set w g 0 vt _⟩
    · have q := hide (h.out.store 0 (.slice (some ⟨b, off + 1, none⟩) j (k - 1)) (c' := { c with inp := r }) (vi' := .slice (some ⟨b, off + 1, none⟩) j (k - 1)) (fu' := fu) (rest' := rest) rfl ⟨_, _, _, rfl, hrk, by omega, by omega, (fun e => by cases e), fun i u hu => by
          obtain ⟨b', off', e, hb', hc'⟩ := HS.out (i + 1) u (by unfold ucells at hu ⊢; simpa using hu)
          injection e with e
          injection e with e1 e2
          subst e1 e2
          exact ⟨b, off + 1, rfl, hb', by rw [show off + 1 + i = off + (i + 1) by omega]; exact hc'⟩⟩ rfl h.out.r8)
      go_enter Tryd.func56, Tryd.ntmps56
      go_wp2_with fail
      go_ret
      exact ⟨rfl, ⟨_, q.out⟩, JKp.set w g 0 vt _⟩
end
end Go.Proofs.YtipjeihfhnilcaaDoor
end
