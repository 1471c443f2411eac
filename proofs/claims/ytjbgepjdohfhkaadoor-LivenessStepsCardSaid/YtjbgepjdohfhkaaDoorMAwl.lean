import Derived.Test.YtjbgepjdohfhkaaDoorMPown
import Derived.Test.YtjbgepjdohfhkaaDoorMHdef
import Derived.Test.YtjbgepjdohfhkaaDoorMFrn
import Derived.Test.YtjbgepjdohfhkaaDoorMFbf
import Derived.Test.YtjbgepjdohfhkaaDoorMBlists
import Derived.Test.YtjbgepjdohfhkaaDoorMLeaf
import Derived.Laws.AppendOwn
set_option linter.unusedVariables false
set_option linter.unusedSimpArgs false
section
/-
  Rows of the call's own that lie apart (Rws), tables of them (Hdr), and the contracts of package liveness's worklist, endsWith and defines. Conditions: those of the types; take asks that there is an item.
-/
namespace Go.Proofs.YtjbgepjdohfhkaaDoor
open Go.RowKit

abbrev Rt := Nat → Nat → Option (Value × List Int)
def upd (T : Rt) (a i : Nat) (p : Value × List Int) : Rt := fun b j => if b = a ∧ j = i then some p else T b j
theorem upd_same (T : Rt) (a i : Nat) (p : Value × List Int) : upd T a i p a i = some p := by simp [upd]
theorem upd_kind (T : Rt) {a b : Nat} (i j : Nat) (p : Value × List Int) (h : b ≠ a) : upd T a i p b j = T b j := by simp [upd, h]
theorem upd_ne (T : Rt) (a : Nat) {i j : Nat} (p : Value × List Int) (h : j ≠ i) : upd T a i p a j = T a j := by simp [upd, h]
/-- Rows of ints, each of the call's own, no two in one block. -/
structure Rws (w : World) (base : Nat) (T : Rt) : Prop where
  own : ∀ (a i : Nat) (v : Value) (zs : List Int), T a i = some (v, zs) → w.ownsRow base 3 1 v zs.length (cellsI zs)
  ne : ∀ (a i b j : Nat) (v u : Value) (zs ys : List Int) (k : Nat), T a i = some (v, zs) → T b j = some (u, ys) → v.ownBlock = some k → u.ownBlock = some k → a = b ∧ i = j
  rng : ∀ (a i : Nat) (v : Value) (zs : List Int), T a i = some (v, zs) → IntOk zs
section
variable {w w' : World} {base : Nat} {T : Rt}
theorem Rws.below (h : Rws w base T) (hb : Below w.heap.size w w') : Rws w' base T := ⟨fun a i v zs e => own_below (h.own a i v zs e) hb, h.ne, h.rng⟩
theorem Rws.drewN (h : Rws w base T) (k : Nat) : Rws (w.drewN k) base T := ⟨h.own, h.ne, h.rng⟩
theorem Rws.far (h : Rws w base T) {g t : Nat} {cs : List Value} (hr : Row w g t cs) (ht : t ≠ 3) (k : Nat) (u : Value) : Rws (w.setCell ⟨g, k, none⟩ u) base T :=
  ⟨fun a i v zs e => (h.own a i v zs e).kept (fgrown_set w g k u) (fown_apart (h.own a i v zs e) hr ht), h.ne, h.rng⟩
theorem Rws.lst (h : Rws w base T) {a i : Nat} {v : Value} {zs : List Int} (e : T a i = some (v, zs)) : ∃ (A : Option Addr) (c : Nat), v = .slice A zs.length c ∧ Lst w A zs.length zs ∧ (A = none → c = 0) := by
  have ho := h.own a i v zs e
  obtain ⟨A, c, rfl, hA, -⟩ := own_form ho
  exact ⟨A, c, rfl, lst_own ho (h.rng a i _ zs e), hA⟩
/-- One row has got one int more. -/
theorem Rws.app (h : Rws w base T) {o : Obj} {a i : Nat} {v v' : Value} {zs : List Int} {x : Int} (e : T a i = some (v, zs)) (hx : -9223372036854775808 ≤ x ∧ x ≤ 9223372036854775807)
    (ho : w'.ownsRow base 3 1 v' (zs.length + 1) (cellsI zs ++ [.int .i64 x])) (hg : (w.alloc o).grownBy w' v.ownBlock) (hw : ∀ k, v'.ownBlock = some k → v.ownBlock = some k ∨ k = (w.alloc o).heap.size) :
    Rws w' base (upd T a i (v', zs ++ [x])) := by
  have hs : (w.alloc o).heap.size = w.heap.size + 1 := by simp
  refine ⟨fun b j u ys e2 => ?_, fun b j b2 j2 u u2 ys ys2 k e1 e2 h1 h2 => ?_, fun b j u ys e2 => ?_⟩
  · unfold upd at e2
    split at e2
    · injection e2 with e2
      injection e2 with e3 e4
      subst e3 e4
      rw [List.length_append, cellsI_append]
      exact ho
    · rename_i hne
      refine ((h.own b j u ys e2).alloc o).kept hg ?_
      cases hb : u.ownBlock with
      | none => exact .inl rfl
      | some k => exact .inr fun q => hne (h.ne b j a i u v ys zs k e2 e hb q.symm)
  · unfold upd at e1 e2
    have old : ∀ (b j : Nat) (u : Value) (ys : List Int), ¬ (b = a ∧ j = i) → T b j = some (u, ys) → u.ownBlock = some k → v'.ownBlock = some k → False := fun b j u ys hn eu hu hv => by
      rcases hw k hv with q | q
      · exact hn (h.ne b j a i u v ys zs k eu e hu q)
      · have := ((h.own b j u ys eu).lt k hu).2
        omega
    split at e1
    · rename_i hn1
      split at e2
      · rename_i hn2
        exact ⟨hn1.1.trans hn2.1.symm, hn1.2.trans hn2.2.symm⟩
      · rename_i hn2
        injection e1 with e1
        injection e1 with e3 _
        subst e3
        exact (old b2 j2 u2 ys2 hn2 e2 h2 h1).elim
    · rename_i hn1
      split at e2
      · injection e2 with e2
        injection e2 with e3 _
        subst e3
        exact (old b j u ys hn1 e1 h1 h2).elim
      · exact h.ne b j b2 j2 u u2 ys ys2 k e1 e2 h1 h2
  · unfold upd at e2
    split at e2
    · injection e2 with e2
      injection e2 with e3 e4
      subst e4
      intro z hz
      rw [List.mem_append] at hz
      rcases hz with hz | hz
      · exact h.rng a i v zs e z hz
      · simp at hz; subst hz; exact hx
    · exact h.rng b j u ys e2
theorem own_cut1 {w : World} {base e size k c : Nat} {A : Option Addr} {xs : List Value} (h : w.ownsRow base e size (.slice A (k + 1) c) (k + 1) xs) : w.ownsRow base e size (.slice A k c) k (xs.take (k * size)) := by
  have hl := h.1
  rcases h.2 with ⟨e1, h0⟩ | ⟨G, cap, cur, hv, hb, hh, hn, hm, hs, ht⟩
  · omega
  · injection hv with h1 h2 h3
    subst h1 h3
    refine ⟨by rw [List.length_take, hl, Nat.min_eq_left (Nat.mul_le_mul_right _ (by omega))], .inr ⟨G, c, cur, rfl, hb, hh, by omega, hm, hs, ?_⟩⟩
    rw [← ht, List.take_take, Nat.min_eq_left (Nat.mul_le_mul_right _ (by omega))]
/-- One row is cut by its last int. -/
theorem Rws.cut (h : Rws w base T) {a i c : Nat} {A : Option Addr} {zs : List Int} {x : Int} (e : T a i = some (.slice A (zs.length + 1) c, zs ++ [x])) : Rws w base (upd T a i (.slice A zs.length c, zs)) := by
  refine ⟨fun b j u ys e2 => ?_, fun b j b2 j2 u u2 ys ys2 k e1 e2 h1 h2 => ?_, fun b j u ys e2 => ?_⟩
  · unfold upd at e2
    split at e2
    · injection e2 with e2
      injection e2 with e3 e4
      subst e3 e4
      have ho := h.own a i _ _ e
      rw [List.length_append, List.length_singleton] at ho
      have h2 := own_cut1 ho
      rwa [cellsI_append, List.take_left' (by rw [cellsI_length, Nat.mul_one])] at h2
    · exact h.own b j u ys e2
  · have key : ∀ (b j : Nat) (u : Value) (ys : List Int), upd T a i (.slice A zs.length c, zs) b j = some (u, ys) → u.ownBlock = some k → ∃ u' ys', T b j = some (u', ys') ∧ u'.ownBlock = some k := fun b j u ys e3 hu => by
      unfold upd at e3
      split at e3
      · rename_i hn
        injection e3 with e3
        injection e3 with e4 _
        subst e4
        refine ⟨_, _, by rw [hn.1, hn.2]; exact e, ?_⟩
        cases A with
        | none => cases hu
        | some ad => exact hu
      · exact ⟨u, ys, e3, hu⟩
    obtain ⟨v1, z1, f1, g1⟩ := key b j u ys e1 h1
    obtain ⟨v2, z2, f2, g2⟩ := key b2 j2 u2 ys2 e2 h2
    exact h.ne b j b2 j2 v1 v2 z1 z2 k f1 f2 g1 g2
  · unfold upd at e2
    split at e2
    · injection e2 with e2
      injection e2 with e3 e4
      subst e4
      exact fun z hz => h.rng a i _ _ e z (List.mem_append_left _ hz)
    · exact h.rng b j u ys e2
end
/-- Block g holds the values of a table's n rows. -/
def Hdr (w : World) (g n : Nat) (T : Nat → Option (Value × List Int)) : Prop := ∃ vs : List Value, vs.length = n ∧ Row w g 42 vs ∧ ∀ i : Nat, i < n → ∃ p, T i = some p ∧ vs[i]? = some p.1
section
variable {w w' : World} {g n : Nat} {T : Nat → Option (Value × List Int)}
theorem Hdr.call (h : Hdr w g n T) (hb : Below w.heap.size w w') : Hdr w' g n T := by
  obtain ⟨vs, h1, h2, h3⟩ := h
  exact ⟨vs, h1, h2.call hb, h3⟩
theorem Hdr.as_ (h : Hdr w g n T) {T' : Nat → Option (Value × List Int)} (he : ∀ i, i < n → T' i = T i) : Hdr w g n T' := by
  obtain ⟨vs, h1, h2, h3⟩ := h
  exact ⟨vs, h1, h2, fun i hi => by rw [he i hi]; exact h3 i hi⟩
theorem Hdr.row (h : Hdr w g n T) : ∃ vs, Row w g 42 vs := by
  obtain ⟨vs, -, h2, -⟩ := h
  exact ⟨vs, h2⟩
theorem Hdr.keep (h : Hdr w g n T) (hk : ∀ vs, Row w g 42 vs → Row w' g 42 vs) : Hdr w' g n T := by
  obtain ⟨vs, h1, h2, h3⟩ := h
  exact ⟨vs, h1, hk vs h2, h3⟩
theorem Hdr.at_ (h : Hdr w g n T) {i : Nat} (hi : i < n) {v : Value} {zs : List Int} (he : T i = some (v, zs)) : w.cell? ⟨g, i, none⟩ = some v ∧ w.frozen? ⟨g, i, none⟩ = false := by
  obtain ⟨vs, h1, h2, h3⟩ := h
  obtain ⟨p, hp, hv⟩ := h3 i hi
  rw [he] at hp
  injection hp with hp
  subst hp
  exact ⟨h2.cell hv, h2.free i⟩
theorem Hdr.put (h : Hdr w g n T) {i : Nat} {v : Value} {zs : List Int} {T' : Nat → Option (Value × List Int)} (h1 : T' i = some (v, zs)) (h2 : ∀ j, j ≠ i → T' j = T j) : Hdr (w.setCell ⟨g, i, none⟩ v) g n T' := by
  obtain ⟨vs, hl, hr, hv⟩ := h
  refine ⟨vs.set i v, by simpa using hl, hr.set_ i v, fun j hj => ?_⟩
  by_cases e : i = j
  · subst e
    exact ⟨_, h1, by rw [List.getElem?_set, if_pos rfl, if_pos (by omega)]⟩
  · rw [h2 j (fun q => e q.symm), List.getElem?_set, if_neg e]
    exact hv j hj
theorem Hdr.grown (h : Hdr w g n T) {base e m : Nat} {v : Value} {xs : List Value} {o : Obj} (ho : w.ownsRow base 3 1 v m xs) (hg : (w.alloc o).grownBy w' v.ownBlock) : Hdr w' g n T := by
  obtain ⟨vs, h1, h2, h3⟩ := h
  refine ⟨vs, h1, (h2.alloc o).grown hg fun q => ?_, h3⟩
  rcases fown_apart ho h2 fty_ne with q2 | q2
  · rw [q2] at q; cases q
  · exact q2 q.symm
end

section
variable {X n c : Nat} {A : Option Addr} {w : World}
theorem wl_empty (w : World) (h : Hid (Row w X 79 [.slice A n c])) (hn : n ≤ 1000000) : Calls Tryd.prog 51 #[.pointer (some ⟨X, 0, none⟩)] w fun e w' => e = .returned (.bool (decide (n = 0))) ∧ w = w' := by
  have q0 := h.out.cell (k := 0) rfl
  have hne : ((n : Int) == 0) = decide (n = 0) := by
    by_cases e : n = 0
    · subst e; rfl
    · rw [decide_eq_false e, beq_eq_false_iff_ne]; omega
  have HE := hide hne
  clear hne
  go_enter Tryd.func51, Tryd.ntmps51
  go_wp2_with fail
  go_ret
  exact ⟨ret_bool HE.out, rfl⟩
set_option maxHeartbeats 1000000 in
theorem wl_take {g : Nat} {x : Int} (w : World) (h : Hid (Row w X 79 [.slice (some ⟨g, 0, none⟩) (n + 1) c])) (hn : n ≤ 1000000) (hnc : n + 1 ≤ c) (hc : c ≤ maxLen) (hx : Hid (w.cell? ⟨g, n, none⟩ = some (.int .i64 x))) : Calls Tryd.prog 52 #[.pointer (some ⟨X, 0, none⟩)] w fun e w' => e = .returned (.int .i64 x) ∧ w' = w.setCell ⟨X, 0, none⟩ (.slice (some ⟨g, 0, none⟩) n c) := by
  have q0 := h.out.cell (k := 0) rfl
  have f0 := h.out.free 0
  have x0 := hx.out
  have hw : IntKind.i64.wrap (((n : Int) + 1) - 1) = (n : Int) := by rw [IntKind.wrap_i64]; omega
  have hn0 : (0 : Int) ≤ (n : Int) := by omega
  have hn1 : (n : Int) < (n : Int) + 1 := by omega
  have hcap1 : (n : Int) ≤ (c : Int) := by omega
  go_enter Tryd.func52, Tryd.ntmps52
  go_wp2_with fail
  go_ret
  exact ⟨rfl, rfl⟩
set_option maxHeartbeats 2000000 in
/-- An int is added: the row has it, wherever it lies now. -/
theorem wl_add {base : Nat} {v : Value} {zs : List Int} {x : Int} (w : World) (h : Hid (Row w X 79 [v])) (ho : Hid (w.ownsRow base 3 1 v zs.length (cellsI zs))) (hn : zs.length ≤ 1000000) (hb : base ≤ w.heap.size) (hx0 : -9223372036854775808 ≤ x) (hx1 : x ≤ 9223372036854775807) :
    Calls Tryd.prog 55 #[.pointer (some ⟨X, 0, none⟩), .int .i64 x] w fun e w' => e = .returned (.tuple #[]) ∧
      ∃ (w2 : World) (o : Obj) (v' : Value), w2.ownsRow base 3 1 v' (zs.length + 1) (cellsI zs ++ [.int .i64 x]) ∧ (w.alloc o).grownBy w2 v.ownBlock ∧ (∀ k, v'.ownBlock = some k → v.ownBlock = some k ∨ k = (w.alloc o).heap.size) ∧ Row w2 X 79 [v] ∧ w' = w2.setCell ⟨X, 0, none⟩ v' := by
  obtain ⟨i0, hi, hz0, hz1, hz2⟩ := info_parts infoI
  have q0 := h.out.cell (k := 0) rfl
  obtain ⟨A, c, rfl, -, -⟩ := own_form ho.out
  have NX := hide (show ∀ (w2 : World) (o : Obj), (w.alloc o).grownBy w2 (Value.slice A zs.length c).ownBlock → Row w2 X 79 [.slice A zs.length c] from fun w2 o hg => (h.out.alloc o).grown hg (fun q => by
    rcases fown_apart ho.out h.out (by decide) with q2 | q2
    · rw [q2] at q; cases q
    · exact q2 q.symm))
  have HO := hide (ho.out.alloc (.cells #[.int .i64 x] 3))
  have HB := hide (show base ≤ (w.alloc (.cells #[.int .i64 x] 3)).heap.size from Nat.le_trans hb (by simp))
  go_enter Tryd.func55, Tryd.ntmps55
  go_wp2_with (at_builtin; refine wpList_append_where rfl (.tmp 8) (.tmp 10) 42 rfl base 3 i0 (.int .i64 0) 1 8 Tryd.underlying42 hi hz0 hz1 hz2 rfl (by decide) _ zs.length (cellsI zs) rfl HO.out ⟨w.heap.size, 0, none⟩ 1 1 [.int .i64 x] rfl rfl (one_new _ _ _) (one_cell _) (by unfold maxLen; omega) (by omega) HB.out ?_)
  intro v7 w7 ho7 hg7 hw7
  obtain ⟨A7, c7, rfl, -, -⟩ := own_form ho7
  have R7 := NX.out _ _ hg7
  have z0 := R7.cell (k := 0) rfl
  have z1 := R7.free 0
  have HF := hide (show ∃ (w2 : World) (o : Obj) (v' : Value), w2.ownsRow base 3 1 v' (zs.length + 1) (cellsI zs ++ [.int .i64 x]) ∧ (w.alloc o).grownBy w2 (Value.slice A zs.length c).ownBlock ∧ (∀ k, v'.ownBlock = some k → (Value.slice A zs.length c).ownBlock = some k ∨ k = (w.alloc o).heap.size) ∧ Row w2 X 79 [.slice A zs.length c] ∧ w7.setCell ⟨X, 0, none⟩ (.slice A7 (zs.length + 1) c7) = w2.setCell ⟨X, 0, none⟩ v' from
    ⟨w7, _, _, ho7, hg7, fun k hk => by simpa using hw7 k hk, R7, rfl⟩)
  clear ho7 hg7 hw7 NX HO R7
  go_wp2_with fail
  go_end0
  exact ⟨rfl, HF.out⟩
end
/-- The list's last int is s. -/
def endB16 (zs : List Int) (s : Int) : Bool := match zs.getLast? with
  | none => false
  | some z => z == s
theorem ends_any {A : Option Addr} {n c : Nat} {zs : List Int} (s : Int) (w : World) (h : Hid (Lst w A n zs)) (hn : n ≤ 1000000) : Calls Tryd.prog 53 #[.slice A n c, .int .i64 s] w fun e w' => e = .returned (.bool (endB16 zs s)) ∧ Below w.heap.size w w' := by
  have hl := h.out.len
  rcases Nat.eq_zero_or_pos n with h0 | h0
  · subst h0
    have hz : zs = [] := List.eq_nil_of_length_eq_zero hl
    subst hz
    go_enter Tryd.func53, Tryd.ntmps53
    go_wp2_with fail
    go_ret
    exact ⟨rfl, Below.refl _ _⟩
  · obtain ⟨m, rfl⟩ : ∃ m, n = m + 1 := ⟨n - 1, by omega⟩
    obtain ⟨b, o, rfl, _, x0⟩ := int_at h.out.see (show m < zs.length by omega)
    have he : endB16 zs s = (zs[m]'(by omega) == s) := by
      unfold endB16
      rw [List.getLast?_eq_getElem?, show zs.length - 1 = m by omega, List.getElem?_eq_getElem (by omega)]
    rw [he]
    generalize zs[m]'(by omega) = y at x0
    have hw : IntKind.i64.wrap (((m : Int) + 1) - 1) = (m : Int) := by rw [IntKind.wrap_i64]; omega
    have hm0 : (0 : Int) < (m : Int) + 1 := by omega
    have hm1 : (0 : Int) ≤ (m : Int) := by omega
    have hm2 : (m : Int) < (m : Int) + 1 := by omega
    clear he
    go_enter Tryd.func53, Tryd.ntmps53
    go_wp2_with fail
    go_ret
    exact ⟨rfl, Below.refl _ _⟩
set_option maxHeartbeats 1000000 in
theorem ldefines_any (o a b c m s : Int) (w : World) : Calls Tryd.prog 54 #[iv o a b c m, .int .i64 s] w fun e w' => e = .returned (.bool (defB o && (a == s))) ∧ Below w.heap.size w w' := by
  obtain ⟨W, hW, hR, hB⟩ := ibox w o a b c m
  have HW := hide hW
  have HB := hide hB
  have x0 := hR.cell (k := 0) rfl
  have x1 := hR.cell (k := 1) rfl
  have x2 := hR.cell (k := 2) rfl
  have x3 := hR.cell (k := 3) rfl
  have x4 := hR.cell (k := 4) rfl
  have cd := edefines_any o a b c m W
  unfold DefPost at cd
  clear hW hR hB
  cases hu : defB o with
  | true =>
    rw [dfI_on hu, hu] at cd
    go_enter Tryd.func54, Tryd.ntmps54
    go_upto_region 1 with (fail)
    rw [HW.out]
    go_wp2_with fail
    refine cd.mono ?_
    rintro e w2 ⟨rfl, hb⟩
    have HB2 := hide (below_call HB.out hb)
    clear hb
    go_wp2_with fail
    go_ret
    exact ⟨rfl, HB2.out⟩
  | false =>
    rw [dfI_off hu, hu] at cd
    go_enter Tryd.func54, Tryd.ntmps54
    go_upto_region 1 with (fail)
    rw [HW.out]
    go_wp2_with fail
    refine cd.mono ?_
    rintro e w2 ⟨rfl, hb⟩
    have HB2 := hide (below_call HB.out hb)
    clear hb
    go_wp2_with fail
    go_ret
    exact ⟨rfl, HB2.out⟩
end Go.Proofs.YtjbgepjdohfhkaaDoor
end

section
/-
  Liveness as mathematics: the equations of an annotation, repeated from empty sets; what may be read along a way; the least solution. No function of the program is named here.
-/
namespace Go.Proofs.YtjbgepjdohfhkaaDoor
open Go.RowKit

/-- The operands of the code are slots, of which there are M. -/
structure LvOk (l : List Ins) (M : Nat) : Prop where
  flow : FlowOk l
  use : ∀ (k : Nat) (x : Ins), l[k]? = some x → useB x.op = true → 0 ≤ x.b ∧ x.b < M
  dfn : ∀ (k : Nat) (x : Ins), l[k]? = some x → defB x.op = true → 0 ≤ x.a ∧ x.a < M
  few : M ≤ 512
/-- The sets of an annotation: one for each instruction, of slots. -/
structure LvIn (n M : Nat) (L : List (List Int)) : Prop where
  len : L.length = n
  asc : ∀ k : Nat, Asc (L.getD k [])
  lt : ∀ (k : Nat) (z : Int), z ∈ L.getD k [] → z < M
def inX (x : Ins) (zs : List Int) : List Int := inL x.op x.a x.b zs
def inK (l : List Ins) (L : List (List Int)) (j : Nat) : List Int := match l[j]? with
  | none => []
  | some x => inX x (L.getD j [])
def uniL (l : List Ins) (L : List (List Int)) (js : List Nat) : List Int := js.foldl (fun r j => unionL r (inK l L j)) []
def stepL (l : List Ins) (L : List (List Int)) : List (List Int) := (List.range l.length).map fun k => uniL l L (suc l k)
def insL (l : List Ins) (L : List (List Int)) : List (List Int) := (List.range l.length).map fun k => inK l L k
/-- Slot s may be read behind instruction k, before it is written. -/
inductive Lv (l : List Ins) : Nat → Int → Prop where
  | use {k j : Nat} {x : Ins} {s : Int} : j ∈ suc l k → l[j]? = some x → s ∈ usL x.op x.b → Lv l k s
  | on {k j : Nat} {x : Ins} {s : Int} : j ∈ suc l k → l[j]? = some x → ¬ (defB x.op = true ∧ s = x.a) → Lv l j s → Lv l k s
def itL (l : List Ins) : Nat → List (List Int)
  | 0 => List.replicate l.length []
  | t + 1 => stepL l (itL l t)
def SubL (L L' : List (List Int)) : Prop := ∀ (k : Nat) (z : Int), z ∈ L.getD k [] → z ∈ L'.getD k []
def solL (l : List Ins) (M : Nat) : List (List Int) := itL l (l.length * M)
section
variable {l : List Ins} {M k j : Nat} {z : Int} {L L' : List (List Int)} {x : Ins}
theorem LvOk.usAsc (h : LvOk l M) (hx : l[k]? = some x) : Asc (usL x.op x.b) := by
  unfold usL
  split
  · rename_i hu
    have h1 := h.use k x hx hu
    have h2 := h.few
    exact asc_one h1.1 (by omega)
  · exact Asc.nil
theorem mem_inX {o a b : Int} {zs : List Int} (h : Asc (usL o b)) : z ∈ inL o a b zs ↔ (z ∈ zs ∧ ¬ (defB o = true ∧ z = a)) ∨ z ∈ usL o b := by
  unfold inL
  rw [mem_union h, mem_outL]
theorem inK_some (hx : l[j]? = some x) (L : List (List Int)) : inK l L j = inX x (L.getD j []) := by unfold inK; rw [hx]
theorem mem_inK (h : LvOk l M) (hx : l[j]? = some x) : z ∈ inK l L j ↔ (z ∈ L.getD j [] ∧ ¬ (defB x.op = true ∧ z = x.a)) ∨ z ∈ usL x.op x.b := by
  rw [inK_some hx]
  exact mem_inX (h.usAsc hx)
theorem inX_asc (x : Ins) {zs : List Int} (h : Asc zs) : Asc (inX x zs) := inL_asc _ _ _ h
theorem inK_asc (hL : ∀ k : Nat, Asc (L.getD k [])) (j : Nat) : Asc (inK l L j) := by
  unfold inK
  split
  · exact Asc.nil
  · exact inX_asc _ (hL j)
theorem uniL_next (l : List Ins) (L : List (List Int)) (js : List Nat) (j : Nat) : uniL l L (js ++ [j]) = unionL (uniL l L js) (inK l L j) := by simp [uniL]
theorem uniL_nil (l : List Ins) (L : List (List Int)) : uniL l L [] = [] := rfl
theorem foldl_asc (js : List Nat) : ∀ r : List Int, Asc r → Asc (js.foldl (fun r j => unionL r (inK l L j)) r) := by
  induction js with
  | nil => exact fun r h => h
  | cons a t ih => exact fun r h => ih _ (unionL_asc h)
theorem uniL_asc (l : List Ins) (L : List (List Int)) (js : List Nat) : Asc (uniL l L js) := foldl_asc js [] Asc.nil
theorem mem_uniL (hL : ∀ k : Nat, Asc (L.getD k [])) (js : List Nat) : z ∈ uniL l L js ↔ ∃ j ∈ js, z ∈ inK l L j := by
  have H : ∀ (js : List Nat) (r : List Int), z ∈ js.foldl (fun r j => unionL r (inK l L j)) r ↔ z ∈ r ∨ ∃ j ∈ js, z ∈ inK l L j := by
    intro js
    induction js with
    | nil => intro r; simp
    | cons a t ih =>
      intro r
      rw [List.foldl_cons, ih, mem_union (inK_asc hL a), or_assoc]
      simp
  unfold uniL
  rw [H]
  simp
theorem stepL_len (l : List Ins) (L : List (List Int)) : (stepL l L).length = l.length := by simp [stepL]
theorem stepL_at (l : List Ins) (L : List (List Int)) (h : k < l.length) : (stepL l L)[k]? = some (uniL l L (suc l k)) := by simp [stepL, h]
theorem stepL_get (l : List Ins) (L : List (List Int)) (k : Nat) : (stepL l L).getD k [] = uniL l L (suc l k) := by
  by_cases h : k < l.length
  · rw [List.getD_eq_getElem?_getD, stepL_at l L h]; rfl
  · rw [List.getD_eq_getElem?_getD, List.getElem?_eq_none (by rw [stepL_len]; omega), suc_none h]; rfl
theorem insL_len (l : List Ins) (L : List (List Int)) : (insL l L).length = l.length := by simp [insL]
theorem insL_at (l : List Ins) (L : List (List Int)) (h : k < l.length) : (insL l L)[k]? = some (inK l L k) := by simp [insL, h]
theorem usL_mem (h : LvOk l M) (hx : l[j]? = some x) (hz : z ∈ usL x.op x.b) : 0 ≤ z ∧ z < M := by
  unfold usL at hz
  split at hz
  · rename_i hu
    simp at hz
    subst hz
    exact h.use j x hx hu
  · cases hz
theorem inK_lt (h : LvOk l M) (hL : LvIn l.length M L) (hz : z ∈ inK l L j) : z < M := by
  cases hx : l[j]? with
  | none => unfold inK at hz; rw [hx] at hz; cases hz
  | some x =>
    rw [mem_inK h hx] at hz
    rcases hz with hz | hz
    · exact hL.lt j z hz.1
    · exact (usL_mem h hx hz).2
theorem LvIn.step (h : LvOk l M) (hL : LvIn l.length M L) : LvIn l.length M (stepL l L) := by
  refine ⟨stepL_len l L, fun k => by rw [stepL_get]; exact uniL_asc _ _ _, fun k z hz => ?_⟩
  rw [stepL_get, mem_uniL hL.asc] at hz
  obtain ⟨j, -, hz⟩ := hz
  exact inK_lt h hL hz
theorem getD_rep (n k : Nat) : (List.replicate n ([] : List Int)).getD k [] = [] := by
  rw [List.getD_eq_getElem?_getD, List.getElem?_replicate]
  split <;> rfl
theorem LvIn.empty (n M : Nat) : LvIn n M (List.replicate n []) := ⟨by simp, fun k => by rw [getD_rep]; exact Asc.nil, fun k z hz => by rw [getD_rep] at hz; cases hz⟩
theorem itL_in (h : LvOk l M) : ∀ t : Nat, LvIn l.length M (itL l t)
  | 0 => LvIn.empty _ _
  | t + 1 => (itL_in h t).step h
theorem inK_mono (h : LvOk l M) (hs : SubL L L') (hz : z ∈ inK l L j) : z ∈ inK l L' j := by
  cases hx : l[j]? with
  | none => unfold inK at hz; rw [hx] at hz; cases hz
  | some x =>
    rw [mem_inK h hx] at hz ⊢
    rcases hz with hz | hz
    · exact .inl ⟨hs j z hz.1, hz.2⟩
    · exact .inr hz
theorem step_mono (h : LvOk l M) (hL : ∀ k : Nat, Asc (L.getD k [])) (hL' : ∀ k : Nat, Asc (L'.getD k [])) (hs : SubL L L') : SubL (stepL l L) (stepL l L') := by
  intro k z hz
  rw [stepL_get, mem_uniL hL] at hz
  rw [stepL_get, mem_uniL hL']
  obtain ⟨j, hj, hz⟩ := hz
  exact ⟨j, hj, inK_mono h hs hz⟩
theorem it_mono (h : LvOk l M) : ∀ t : Nat, SubL (itL l t) (itL l (t + 1))
  | 0 => fun k z hz => by rw [show itL l 0 = List.replicate l.length [] from rfl, getD_rep] at hz; cases hz
  | t + 1 => step_mono h (itL_in h t).asc (itL_in h (t + 1)).asc (it_mono h t)
theorem it_sound (h : LvOk l M) : ∀ (t k : Nat) (z : Int), z ∈ (itL l t).getD k [] → Lv l k z
  | 0, k, z, hz => by rw [show itL l 0 = List.replicate l.length [] from rfl, getD_rep] at hz; cases hz
  | t + 1, k, z, hz => by
    rw [show itL l (t + 1) = stepL l (itL l t) from rfl, stepL_get, mem_uniL (itL_in h t).asc] at hz
    obtain ⟨j, hj, hz⟩ := hz
    cases hx : l[j]? with
    | none => unfold inK at hz; rw [hx] at hz; cases hz
    | some x =>
      rw [mem_inK h hx] at hz
      rcases hz with hz | hz
      · exact .on hj hx hz.2 (it_sound h t j z hz.1)
      · exact .use hj hx hz
/-- An annotation that has all that the equations ask for has all that may be read. -/
theorem pre_all (h : LvOk l M) (hL : ∀ k : Nat, Asc (L.getD k [])) (hs : SubL (stepL l L) L) (hv : Lv l k z) : z ∈ L.getD k [] := by
  induction hv with
  | use hj hx hu =>
    refine hs _ _ ?_
    rw [stepL_get, mem_uniL hL]
    exact ⟨_, hj, (mem_inK h hx).2 (.inr hu)⟩
  | on hj hx hn _ ih =>
    refine hs _ _ ?_
    rw [stepL_get, mem_uniL hL]
    exact ⟨_, hj, (mem_inK h hx).2 (.inl ⟨ih, hn⟩)⟩
def szL (L : List (List Int)) : Nat := (L.map List.length).sum
theorem sub_nd : ∀ {b a : List Int}, a.Nodup → (∀ z ∈ a, z ∈ b) → a.length ≤ b.length
  | [], a, _, hs => by
    cases a with
    | nil => exact Nat.le_refl _
    | cons x t => have := hs x (by simp); cases this
  | y :: b, a, hn, hs => by
    by_cases hy : y ∈ a
    · have h1 := sub_nd (b := b) (a := a.erase y) (hn.erase y) (fun z hz => by
        rw [hn.mem_erase_iff] at hz
        rcases List.mem_cons.1 (hs z hz.2) with h | h
        · exact (hz.1 h).elim
        · exact h)
      rw [List.length_erase_of_mem hy] at h1
      rw [List.length_cons]
      omega
    · have h1 := sub_nd (b := b) (a := a) hn (fun z hz => by
        rcases List.mem_cons.1 (hs z hz) with h | h
        · subst h; exact (hy hz).elim
        · exact h)
      rw [List.length_cons]
      omega
theorem asc_nd {a : List Int} (ha : Asc a) : a.Nodup := ha.1.imp fun h => by omega
theorem sub_len {a b : List Int} (ha : Asc a) (hs : ∀ z ∈ a, z ∈ b) : a.length ≤ b.length := sub_nd (asc_nd ha) hs
theorem sub_eq {a b : List Int} (ha : Asc a) (hb : Asc b) (hs : ∀ z ∈ a, z ∈ b) (he : a.length = b.length) : a = b :=
  ha.ext hb fun z _ _ => ⟨hs z, fun hz => by
    refine Classical.byContradiction fun hn => ?_
    have h1 := sub_nd (b := b.erase z) (asc_nd ha) (fun y hy => (List.mem_erase_of_ne (fun e => hn (by rw [← e]; exact hy))).2 (hs y hy))
    rw [List.length_erase_of_mem hz] at h1
    have h2 := List.length_pos_of_mem hz
    omega⟩
theorem subs_sz : ∀ {L L' : List (List Int)}, L.length = L'.length → (∀ k : Nat, Asc (L.getD k [])) → (∀ k : Nat, Asc (L'.getD k [])) → SubL L L' → szL L ≤ szL L' ∧ (szL L = szL L' → L = L')
  | [], [], _, _, _, _ => ⟨Nat.le_refl _, fun _ => rfl⟩
  | [], _ :: _, h, _, _, _ => by simp at h
  | _ :: _, [], h, _, _, _ => by simp at h
  | a :: t, b :: u, h, hL, hL', hs => by
    have h0 : ∀ z ∈ a, z ∈ b := fun z hz => hs 0 z hz
    have ih := subs_sz (L := t) (L' := u) (by simpa using h) (fun k => hL (k + 1)) (fun k => hL' (k + 1)) (fun k z hz => hs (k + 1) z hz)
    have h1 := sub_len (hL 0) h0
    simp only [List.getD_cons_zero] at h1
    have e1 : szL (a :: t) = a.length + szL t := by simp [szL]
    have e2 : szL (b :: u) = b.length + szL u := by simp [szL]
    refine ⟨by omega, fun he => ?_⟩
    have e3 : a = b := sub_eq (hL 0) (hL' 0) h0 (by omega)
    rw [ih.2 (by omega), e3]
theorem asc_le {a : List Int} (ha : Asc a) (hM : ∀ z ∈ a, z < (M : Int)) : a.length ≤ M := by
  have h1 : ∀ z ∈ a, z ∈ (List.range M).map (fun i : Nat => (i : Int)) := fun z hz => by
    have h2 := (ha.2 z hz).1
    have h3 := hM z hz
    exact List.mem_map.2 ⟨z.toNat, List.mem_range.2 (by omega), by omega⟩
  have h4 := sub_len ha h1
  simpa using h4
theorem sz_le : ∀ {L : List (List Int)}, (∀ k : Nat, Asc (L.getD k [])) → (∀ (k : Nat) (z : Int), z ∈ L.getD k [] → z < (M : Int)) → szL L ≤ L.length * M
  | [], _, _ => by simp [szL]
  | a :: t, h1, h2 => by
    have ih := sz_le (L := t) (fun k => h1 (k + 1)) (fun k z hz => h2 (k + 1) z hz)
    have h3 := asc_le (h1 0) (h2 0)
    have e1 : szL (a :: t) = a.length + szL t := by simp [szL]
    simp only [List.getD_cons_zero] at h3
    rw [e1, List.length_cons, Nat.add_mul]
    omega
theorem it_grow (h : LvOk l M) (t : Nat) (hne : stepL l (itL l t) ≠ itL l t) : szL (itL l t) < szL (itL l (t + 1)) := by
  have h1 := subs_sz (by rw [(itL_in h t).len, (itL_in h (t + 1)).len]) (itL_in h t).asc (itL_in h (t + 1)).asc (it_mono h t)
  rcases Nat.lt_or_ge (szL (itL l t)) (szL (itL l (t + 1))) with h2 | h2
  · exact h2
  · exact (hne (h1.2 (by omega)).symm).elim
theorem it_bound (h : LvOk l M) (t : Nat) : szL (itL l t) ≤ l.length * M := by
  have := sz_le (itL_in h t).asc (itL_in h t).lt
  rwa [(itL_in h t).len] at this
/-- Where a repetition changes nothing, none behind it does. -/
theorem it_stay {t : Nat} (he : stepL l (itL l t) = itL l t) : ∀ d : Nat, itL l (t + d) = itL l t
  | 0 => rfl
  | d + 1 => by
    show stepL l (itL l (t + d)) = itL l t
    rw [it_stay he d, he]
theorem it_ends (h : LvOk l M) : ∀ t : Nat, t ≤ szL (itL l t) ∨ stepL l (itL l t) = itL l t
  | 0 => .inl (Nat.zero_le _)
  | t + 1 => by
    by_cases he : stepL l (itL l t) = itL l t
    · refine .inr ?_
      rw [show itL l (t + 1) = itL l t from he]
      exact he
    · have h1 := it_grow h t he
      rcases it_ends h t with h2 | h2
      · exact .inl (by omega)
      · exact (he h2).elim
theorem sol_fix (h : LvOk l M) : stepL l (solL l M) = solL l M := by
  by_cases he : stepL l (itL l (l.length * M)) = itL l (l.length * M)
  · exact he
  · have h1 := it_grow h _ he
    have h2 := it_bound h (l.length * M + 1)
    rcases it_ends h (l.length * M) with h3 | h3
    · omega
    · exact h3
theorem sol_late (h : LvOk l M) {t : Nat} (ht : l.length * M ≤ t) : itL l t = solL l M := by
  obtain ⟨d, rfl⟩ := Nat.le.dest ht
  exact it_stay (sol_fix h) d
theorem sol_in (h : LvOk l M) : LvIn l.length M (solL l M) := itL_in h _
theorem mem_sol (h : LvOk l M) : z ∈ (solL l M).getD k [] ↔ Lv l k z :=
  ⟨it_sound h _ k z, pre_all h (sol_in h).asc (by rw [sol_fix h]; exact fun _ _ hz => hz)⟩
/-- The first repetition that changes nothing is the least solution. -/
theorem sol_first (h : LvOk l M) {t : Nat} (he : stepL l (itL l t) = itL l t) : itL l t = solL l M := by
  by_cases ht : t ≤ l.length * M
  · obtain ⟨d, hd⟩ := Nat.le.dest ht
    unfold solL
    rw [← hd]
    exact (it_stay he d).symm
  · exact sol_late h (by omega)
theorem list_ext {L L' : List (List Int)} (hl : L.length = L'.length) (h : ∀ k : Nat, k < L.length → L.getD k [] = L'.getD k []) : L = L' := by
  refine List.ext_getElem hl fun k h1 h2 => ?_
  have := h k h1
  rwa [List.getD_eq_getElem?_getD, List.getD_eq_getElem?_getD, List.getElem?_eq_getElem h1, List.getElem?_eq_getElem h2] at this
/-- What has just what may be read is the least solution. -/
theorem sol_one (h : LvOk l M) (hL : LvIn l.length M L) (hm : ∀ (k : Nat) (z : Int), k < l.length → (z ∈ L.getD k [] ↔ Lv l k z)) : L = solL l M := by
  refine list_ext (by rw [hL.len, (sol_in h).len]) fun k hk => ?_
  exact (hL.asc k).ext ((sol_in h).asc k) fun z _ _ => by rw [hm k z (by rw [hL.len] at hk; exact hk), mem_sol h]
end
end Go.Proofs.YtjbgepjdohfhkaaDoor
end

section
/-
  How a slot spreads backwards from its readers, as mathematics: what the worklist holds, what has been marked. No function of the program is named here.
-/
namespace Go.Proofs.YtjbgepjdohfhkaaDoor
open Go.RowKit

/-- Slot s may be read at the beginning of instruction j. -/
def Bg (l : List Ins) (s : Int) (j : Nat) : Prop := ∃ x, l[j]? = some x ∧ (s ∈ usL x.op x.b ∨ (¬ (defB x.op = true ∧ s = x.a) ∧ Lv l j s))
/-- The same, as far as it has been found: D are the marks. -/
def BgD (l : List Ins) (s : Int) (D : Nat → Bool) (j : Nat) : Prop := ∃ x, l[j]? = some x ∧ (s ∈ usL x.op x.b ∨ (¬ (defB x.op = true ∧ s = x.a) ∧ D j = true))
structure SprI (l : List Ins) (s : Int) (D : Nat → Bool) (W : List Nat) : Prop where
  snd : ∀ k : Nat, D k = true → Lv l k s
  bg : ∀ j ∈ W, Bg l s j
  dn : ∀ j : Nat, BgD l s D j → j ∈ W ∨ ∀ k : Nat, j ∈ suc l k → D k = true
structure SprK (l : List Ins) (s : Int) (D : Nat → Bool) (W : List Nat) (j i : Nat) : Prop where
  snd : ∀ k : Nat, D k = true → Lv l k s
  bg : ∀ m ∈ W, Bg l s m
  dn : ∀ m : Nat, BgD l s D m → m ∈ W ∨ m = j ∨ ∀ k : Nat, m ∈ suc l k → D k = true
  me : Bg l s j
  cur : ∀ k ∈ (befN l l.length j).take i, D k = true
def mark1 (D : Nat → Bool) (k : Nat) : Nat → Bool := fun m => decide (m = k) || D m
def cntU (D : Nat → Bool) (n : Nat) : Nat := (List.range n).countP fun k => !D k
section
variable {l : List Ins} {s : Int} {D : Nat → Bool} {W : List Nat} {j i k : Nat}
theorem mark1_same (D : Nat → Bool) (k : Nat) : mark1 D k k = true := by simp [mark1]
theorem mark1_old (k : Nat) {m : Nat} (h : D m = true) : mark1 D k m = true := by simp [mark1, h]
theorem mark1_ne {m : Nat} (h : m ≠ k) : mark1 D k m = D m := by simp [mark1, h]
theorem suc_in_lt (h : j ∈ suc l k) : k < l.length := by
  refine Nat.lt_of_not_le fun hn => ?_
  rw [suc_none (by omega)] at h
  cases h
theorem SprI.start {R : List Nat} (h : ∀ j : Nat, j ∈ R ↔ ∃ x, l[j]? = some x ∧ s ∈ usL x.op x.b) : SprI l s (fun _ => false) R := by
  refine ⟨fun k hk => (by cases hk), fun j hj => ?_, fun j hj => ?_⟩
  · obtain ⟨x, hx, hu⟩ := (h j).1 hj
    exact ⟨x, hx, .inl hu⟩
  · obtain ⟨x, hx, hu | hu⟩ := hj
    · exact .inl ((h j).2 ⟨x, hx, hu⟩)
    · cases hu.2
theorem SprI.pop (h : SprI l s D (W ++ [j])) : SprK l s D W j 0 := by
  refine ⟨h.snd, fun m hm => h.bg m (List.mem_append_left _ hm), fun m hm => ?_, h.bg j (by simp), fun k hk => by simp at hk⟩
  rcases h.dn m hm with q | q
  · rw [List.mem_append, List.mem_singleton] at q
    rcases q with q | q
    · exact .inl q
    · exact .inr (.inl q)
  · exact .inr (.inr q)
theorem take_mem {L : List Nat} {i k m : Nat} (hk : L[i]? = some k) (h : m ∈ L.take (i + 1)) : m ∈ L.take i ∨ m = k := by
  obtain ⟨h1, h2⟩ := List.getElem?_eq_some_iff.1 hk
  rw [List.take_succ_eq_append_getElem h1, List.mem_append, List.mem_singleton, h2] at h
  exact h
theorem SprK.old (h : SprK l s D W j i) (hk : (befN l l.length j)[i]? = some k) (hd : D k = true) : SprK l s D W j (i + 1) :=
  ⟨h.snd, h.bg, h.dn, h.me, fun m hm => by
    rcases take_mem hk hm with q | q
    · exact h.cur m q
    · rw [q]; exact hd⟩
theorem SprK.lv (h : SprK l s D W j i) (hk : (befN l l.length j)[i]? = some k) : k < l.length ∧ j ∈ suc l k ∧ Lv l k s := by
  obtain ⟨h1, h2⟩ := mem_bef.1 (List.mem_of_getElem? hk)
  obtain ⟨x, hx, hu | hu⟩ := h.me
  · exact ⟨h1, h2, .use h2 hx hu⟩
  · exact ⟨h1, h2, .on h2 hx hu.1 hu.2⟩
/-- Instruction k gets its mark; it goes onto the list if it does not write the slot. -/
theorem SprK.new {x : Ins} (h : SprK l s D W j i) (hk : (befN l l.length j)[i]? = some k) (hx : l[k]? = some x) : SprK l s (mark1 D k) (if defB x.op = true ∧ x.a = s then W else W ++ [k]) j (i + 1) := by
  obtain ⟨h1, h2, h3⟩ := h.lv hk
  refine ⟨fun m hm => ?_, fun m hm => ?_, fun m hm => ?_, h.me, fun m hm => ?_⟩
  · by_cases e : m = k
    · rw [e]; exact h3
    · rw [mark1_ne e] at hm; exact h.snd m hm
  · split at hm
    · exact h.bg m hm
    · rename_i hn
      rw [List.mem_append, List.mem_singleton] at hm
      rcases hm with hm | hm
      · exact h.bg m hm
      · rw [hm]; exact ⟨x, hx, .inr ⟨fun q => hn ⟨q.1, q.2.symm⟩, h3⟩⟩
  · by_cases e : m = k ∧ ¬ (defB x.op = true ∧ x.a = s)
    · refine .inl ?_
      rw [if_neg e.2, e.1]
      simp
    · have hm2 : BgD l s D m := by
        obtain ⟨y, hy, hu | hu⟩ := hm
        · exact ⟨y, hy, .inl hu⟩
        · refine ⟨y, hy, .inr ⟨hu.1, ?_⟩⟩
          by_cases q : m = k
          · exfalso
            subst q
            rw [hx] at hy
            injection hy with hy
            subst hy
            exact e ⟨rfl, fun r => hu.1 ⟨r.1, r.2.symm⟩⟩
          · have := hu.2
            rwa [mark1_ne q] at this
      rcases h.dn m hm2 with q | q | q
      · refine .inl ?_
        split
        · exact q
        · exact List.mem_append_left _ q
      · exact .inr (.inl q)
      · exact .inr (.inr fun k' hk' => mark1_old k (q k' hk'))
  · rcases take_mem hk hm with q | q
    · exact mark1_old k (h.cur m q)
    · rw [q]; exact mark1_same D k
theorem SprK.over (h : SprK l s D W j i) (hi : (befN l l.length j).length ≤ i) : SprI l s D W := by
  refine ⟨h.snd, h.bg, fun m hm => ?_⟩
  rcases h.dn m hm with q | q | q
  · exact .inl q
  · refine .inr fun k hk => h.cur k ?_
    rw [List.take_of_length_le hi, mem_bef]
    rw [q] at hk
    exact ⟨suc_in_lt hk, hk⟩
  · exact .inr q
theorem SprI.end_ (h : SprI l s D []) (k : Nat) : D k = true ↔ Lv l k s := by
  refine ⟨h.snd k, fun hv => ?_⟩
  have key : ∀ (m : Nat) (z : Int), Lv l m z → z = s → D m = true := by
    intro m z hz
    induction hz with
    | use hj hx hu =>
      intro e
      subst e
      rcases h.dn _ ⟨_, hx, .inl hu⟩ with q | q
      · cases q
      · exact q _ hj
    | on hj hx hn _ ih =>
      intro e
      subst e
      rcases h.dn _ ⟨_, hx, .inr ⟨hn, ih rfl⟩⟩ with q | q
      · cases q
      · exact q _ hj
  exact key k s hv rfl
theorem cntU_mark {n : Nat} (hk : k < n) (hd : D k = false) : cntU (mark1 D k) n + 1 ≤ cntU D n := by
  have key : ∀ n : Nat, (cntU (mark1 D k) n ≤ cntU D n) ∧ (k < n → cntU (mark1 D k) n + 1 ≤ cntU D n) := by
    intro n
    induction n with
    | zero => exact ⟨Nat.le_refl _, fun h => by omega⟩
    | succ n ih =>
      have e1 : ∀ E : Nat → Bool, cntU E (n + 1) = cntU E n + (if E n = false then 1 else 0) := fun E => by
        unfold cntU
        rw [List.range_succ, List.countP_append, List.countP_singleton]
        cases E n <;> simp
      rw [e1, e1]
      by_cases q : n = k
      · subst q
        rw [mark1_same, hd]
        have := ih.1
        simp
        omega
      · rw [mark1_ne q]
        refine ⟨by have := ih.1; omega, fun h => by have := ih.2 (by omega); omega⟩
  exact (key n).2 hk
theorem cntU_le (D : Nat → Bool) (n : Nat) : cntU D n ≤ n := by
  unfold cntU
  have := List.countP_le_length (p := fun k => !D k) (l := List.range n)
  simpa using this
end
end Go.Proofs.YtjbgepjdohfhkaaDoor
end
