import Derived.Test.YtjbgepjdohfhkaaMRct
import Derived.Test.YtjbgepjdohfhkaaMHdef
import Derived.Test.YtjbgepjdohfhkaaMFrn
import Derived.Test.YtjbgepjdohfhkaaMFbf
import Derived.Laws.AppendOwn
set_option linter.unusedVariables false
set_option linter.unusedSimpArgs false
section
/-
  Rows of the call's own that lie apart (Rws), tables of them (Hdr), and the contracts of package liveness's worklist, endsWith and defines. Conditions: those of the types; take asks that there is an item.
-/
namespace Go.Proofs.Ytjbgepjdohfhkaa
open Go.RowKit

abbrev Rt := Nat → Nat → Option (Value × List Int)
def upd (T : Rt) (a i : Nat) (p : Value × List Int) : Rt := fun b j => if b = a ∧ j = i then some p else T b j
theorem upd_same (T : Rt) (a i : Nat) (p : Value × List Int) : upd T a i p a i = some p := by simp [upd]
theorem upd_kind (T : Rt) {a b : Nat} (i j : Nat) (p : Value × List Int) (h : b ≠ a) : upd T a i p b j = T b j := by simp [upd, h]
theorem upd_ne (T : Rt) (a : Nat) {i j : Nat} (p : Value × List Int) (h : j ≠ i) : upd T a i p a j = T a j := by simp [upd, h]
/-- Rows of ints, each of the call's own, no two in one block. -/
structure Rws (w : World) (base : Nat) (T : Rt) : Prop where
  own : ∀ (a i : Nat) (v : Value) (zs : List Int), T a i = some (v, zs) → w.ownsRow base 3 1 v zs.length (cellsI zs)
  ne : ∀ (a i b j : Nat) (v u : Value) (zs ys : List Int) (k : Nat), T a i = some (v, zs) → T b j = some (u, ys) → v.ownBlock = some k → u.ownBlock = some k → a = b ∧ i = j
  rng : ∀ (a i : Nat) (v : Value) (zs : List Int), T a i = some (v, zs) → IntOk zs
section
variable {w w' : World} {base : Nat} {T : Rt}
theorem Rws.below (h : Rws w base T) (hb : Below w.heap.size w w') : Rws w' base T := ⟨fun a i v zs e => own_below (h.own a i v zs e) hb, h.ne, h.rng⟩
theorem Rws.drewN (h : Rws w base T) (k : Nat) : Rws (w.drewN k) base T := ⟨h.own, h.ne, h.rng⟩
theorem Rws.far (h : Rws w base T) {g t : Nat} {cs : List Value} (hr : Row w g t cs) (ht : t ≠ 3) (k : Nat) (u : Value) : Rws (w.setCell ⟨g, k, none⟩ u) base T :=
  ⟨fun a i v zs e => (h.own a i v zs e).kept (fgrown_set w g k u) (fown_apart (h.own a i v zs e) hr ht), h.ne, h.rng⟩
theorem Rws.lst (h : Rws w base T) {a i : Nat} {v : Value} {zs : List Int} (e : T a i = some (v, zs)) : ∃ (A : Option Addr) (c : Nat), v = .slice A zs.length c ∧ Lst w A zs.length zs ∧ (A = none → c = 0) := by
  have ho := h.own a i v zs e
  obtain ⟨A, c, rfl, hA, -⟩ := own_form ho
  exact ⟨A, c, rfl, lst_own ho (h.rng a i _ zs e), hA⟩
/-- One row has got one int more. -/
theorem Rws.app (h : Rws w base T) {o : Obj} {a i : Nat} {v v' : Value} {zs : List Int} {x : Int} (e : T a i = some (v, zs)) (hx : -9223372036854775808 ≤ x ∧ x ≤ 9223372036854775807)
    (ho : w'.ownsRow base 3 1 v' (zs.length + 1) (cellsI zs ++ [.int .i64 x])) (hg : (w.alloc o).grownBy w' v.ownBlock) (hw : ∀ k, v'.ownBlock = some k → v.ownBlock = some k ∨ k = (w.alloc o).heap.size) :
    Rws w' base (upd T a i (v', zs ++ [x])) := by
  have hs : (w.alloc o).heap.size = w.heap.size + 1 := by simp
  refine ⟨fun b j u ys e2 => ?_, fun b j b2 j2 u u2 ys ys2 k e1 e2 h1 h2 => ?_, fun b j u ys e2 => ?_⟩
  · unfold upd at e2
    split at e2
    · injection e2 with e2
      injection e2 with e3 e4
      subst e3 e4
      rw [List.length_append, cellsI_append]
      exact ho
    · rename_i hne
      refine ((h.own b j u ys e2).alloc o).kept hg ?_
      cases hb : u.ownBlock with
      | none => exact .inl rfl
      | some k => exact .inr fun q => hne (h.ne b j a i u v ys zs k e2 e hb q.symm)
  · unfold upd at e1 e2
    have old : ∀ (b j : Nat) (u : Value) (ys : List Int), ¬ (b = a ∧ j = i) → T b j = some (u, ys) → u.ownBlock = some k → v'.ownBlock = some k → False := fun b j u ys hn eu hu hv => by
      rcases hw k hv with q | q
      · exact hn (h.ne b j a i u v ys zs k eu e hu q)
      · have := ((h.own b j u ys eu).lt k hu).2
        omega
    split at e1
    · rename_i hn1
      split at e2
      · rename_i hn2
        exact ⟨hn1.1.trans hn2.1.symm, hn1.2.trans hn2.2.symm⟩
      · rename_i hn2
        injection e1 with e1
        injection e1 with e3 _
        subst e3
        exact (old b2 j2 u2 ys2 hn2 e2 h2 h1).elim
    · rename_i hn1
      split at e2
      · injection e2 with e2
        injection e2 with e3 _
        subst e3
        exact (old b j u ys hn1 e1 h1 h2).elim
      · exact h.ne b j b2 j2 u u2 ys ys2 k e1 e2 h1 h2
  · unfold upd at e2
    split at e2
    · injection e2 with e2
      injection e2 with e3 e4
      subst e4
      intro z hz
      rw [List.mem_append] at hz
      rcases hz with hz | hz
      · exact h.rng a i v zs e z hz
      · simp at hz; subst hz; exact hx
    · exact h.rng b j u ys e2
theorem own_cut1 {w : World} {base e size k c : Nat} {A : Option Addr} {xs : List Value} (h : w.ownsRow base e size (.slice A (k + 1) c) (k + 1) xs) : w.ownsRow base e size (.slice A k c) k (xs.take (k * size)) := by
  have hl := h.1
  rcases h.2 with ⟨e1, h0⟩ | ⟨G, cap, cur, hv, hb, hh, hn, hm, hs, ht⟩
  · omega
  · injection hv with h1 h2 h3
    subst h1 h3
    refine ⟨by rw [List.length_take, hl, Nat.min_eq_left (Nat.mul_le_mul_right _ (by omega))], .inr ⟨G, c, cur, rfl, hb, hh, by omega, hm, hs, ?_⟩⟩
    rw [← ht, List.take_take, Nat.min_eq_left (Nat.mul_le_mul_right _ (by omega))]
/-- One row is cut by its last int. -/
theorem Rws.cut (h : Rws w base T) {a i c : Nat} {A : Option Addr} {zs : List Int} {x : Int} (e : T a i = some (.slice A (zs.length + 1) c, zs ++ [x])) : Rws w base (upd T a i (.slice A zs.length c, zs)) := by
  refine ⟨fun b j u ys e2 => ?_, fun b j b2 j2 u u2 ys ys2 k e1 e2 h1 h2 => ?_, fun b j u ys e2 => ?_⟩
  · unfold upd at e2
    split at e2
    · injection e2 with e2
      injection e2 with e3 e4
      subst e3 e4
      have ho := h.own a i _ _ e
      rw [List.length_append, List.length_singleton] at ho
      have h2 := own_cut1 ho
      rwa [cellsI_append, List.take_left' (by rw [cellsI_length, Nat.mul_one])] at h2
    · exact h.own b j u ys e2
  · have key : ∀ (b j : Nat) (u : Value) (ys : List Int), upd T a i (.slice A zs.length c, zs) b j = some (u, ys) → u.ownBlock = some k → ∃ u' ys', T b j = some (u', ys') ∧ u'.ownBlock = some k := fun b j u ys e3 hu => by
      unfold upd at e3
      split at e3
      · rename_i hn
        injection e3 with e3
        injection e3 with e4 _
        subst e4
        refine ⟨_, _, by rw [hn.1, hn.2]; exact e, ?_⟩
        cases A with
        | none => cases hu
        | some ad => exact hu
      · exact ⟨u, ys, e3, hu⟩
    obtain ⟨v1, z1, f1, g1⟩ := key b j u ys e1 h1
    obtain ⟨v2, z2, f2, g2⟩ := key b2 j2 u2 ys2 e2 h2
    exact h.ne b j b2 j2 v1 v2 z1 z2 k f1 f2 g1 g2
  · unfold upd at e2
    split at e2
    · injection e2 with e2
      injection e2 with e3 e4
      subst e4
      exact fun z hz => h.rng a i _ _ e z (List.mem_append_left _ hz)
    · exact h.rng b j u ys e2
end
/-- Block g holds the values of a table's n rows. -/
def Hdr (w : World) (g n : Nat) (T : Nat → Option (Value × List Int)) : Prop := ∃ vs : List Value, vs.length = n ∧ Row w g 38 vs ∧ ∀ i : Nat, i < n → ∃ p, T i = some p ∧ vs[i]? = some p.1
section
variable {w w' : World} {g n : Nat} {T : Nat → Option (Value × List Int)}
theorem Hdr.call (h : Hdr w g n T) (hb : Below w.heap.size w w') : Hdr w' g n T := by
  obtain ⟨vs, h1, h2, h3⟩ := h
  exact ⟨vs, h1, h2.call hb, h3⟩
theorem Hdr.as_ (h : Hdr w g n T) {T' : Nat → Option (Value × List Int)} (he : ∀ i, i < n → T' i = T i) : Hdr w g n T' := by
  obtain ⟨vs, h1, h2, h3⟩ := h
  exact ⟨vs, h1, h2, fun i hi => by rw [he i hi]; exact h3 i hi⟩
theorem Hdr.row (h : Hdr w g n T) : ∃ vs, Row w g 38 vs := by
  obtain ⟨vs, -, h2, -⟩ := h
  exact ⟨vs, h2⟩
theorem Hdr.keep (h : Hdr w g n T) (hk : ∀ vs, Row w g 38 vs → Row w' g 38 vs) : Hdr w' g n T := by
  obtain ⟨vs, h1, h2, h3⟩ := h
  exact ⟨vs, h1, hk vs h2, h3⟩
theorem Hdr.at_ (h : Hdr w g n T) {i : Nat} (hi : i < n) {v : Value} {zs : List Int} (he : T i = some (v, zs)) : w.cell? ⟨g, i, none⟩ = some v ∧ w.frozen? ⟨g, i, none⟩ = false := by
  obtain ⟨vs, h1, h2, h3⟩ := h
  obtain ⟨p, hp, hv⟩ := h3 i hi
  rw [he] at hp
  injection hp with hp
  subst hp
  exact ⟨h2.cell hv, h2.free i⟩
theorem Hdr.put (h : Hdr w g n T) {i : Nat} {v : Value} {zs : List Int} {T' : Nat → Option (Value × List Int)} (h1 : T' i = some (v, zs)) (h2 : ∀ j, j ≠ i → T' j = T j) : Hdr (w.setCell ⟨g, i, none⟩ v) g n T' := by
  obtain ⟨vs, hl, hr, hv⟩ := h
  refine ⟨vs.set i v, by simpa using hl, hr.set_ i v, fun j hj => ?_⟩
  by_cases e : i = j
  · subst e
    exact ⟨_, h1, by rw [List.getElem?_set, if_pos rfl, if_pos (by omega)]⟩
  · rw [h2 j (fun q => e q.symm), List.getElem?_set, if_neg e]
    exact hv j hj
theorem Hdr.grown (h : Hdr w g n T) {base e m : Nat} {v : Value} {xs : List Value} {o : Obj} (ho : w.ownsRow base 3 1 v m xs) (hg : (w.alloc o).grownBy w' v.ownBlock) : Hdr w' g n T := by
  obtain ⟨vs, h1, h2, h3⟩ := h
  refine ⟨vs, h1, (h2.alloc o).grown hg fun q => ?_, h3⟩
  rcases fown_apart ho h2 fty_ne with q2 | q2
  · rw [q2] at q; cases q
  · exact q2 q.symm
end

section
variable {X n c : Nat} {A : Option Addr} {w : World}
theorem wl_empty (w : World) (h : Hid (Row w X 69 [.slice A n c])) (hn : n ≤ 1000000) : Calls Try.prog 36 #[.pointer (some ⟨X, 0, none⟩)] w fun e w' => e = .returned (.bool (decide (n = 0))) ∧ w = w' := by
  have q0 := h.out.cell (k := 0) rfl
  have hne : ((n : Int) == 0) = decide (n = 0) := by
    by_cases e : n = 0
    · subst e; rfl
    · rw [decide_eq_false e, beq_eq_false_iff_ne]; omega
  have HE := hide hne
  clear hne
  go_enter Try.func36, Try.ntmps36
  go_wp2_with fail
  go_ret
  exact ⟨ret_bool HE.out, rfl⟩
set_option maxHeartbeats 1000000 in
theorem wl_take {g : Nat} {x : Int} (w : World) (h : Hid (Row w X 69 [.slice (some ⟨g, 0, none⟩) (n + 1) c])) (hn : n ≤ 1000000) (hnc : n + 1 ≤ c) (hc : c ≤ maxLen) (hx : Hid (w.cell? ⟨g, n, none⟩ = some (.int .i64 x))) : Calls Try.prog 37 #[.pointer (some ⟨X, 0, none⟩)] w fun e w' => e = .returned (.int .i64 x) ∧ w' = w.setCell ⟨X, 0, none⟩ (.slice (some ⟨g, 0, none⟩) n c) := by
  have q0 := h.out.cell (k := 0) rfl
  have f0 := h.out.free 0
  have x0 := hx.out
  have hw : IntKind.i64.wrap (((n : Int) + 1) - 1) = (n : Int) := by rw [IntKind.wrap_i64]; omega
  have hn0 : (0 : Int) ≤ (n : Int) := by omega
  have hn1 : (n : Int) < (n : Int) + 1 := by omega
  have hcap1 : (n : Int) ≤ (c : Int) := by omega
  go_enter Try.func37, Try.ntmps37
  go_wp2_with fail
  go_ret
  exact ⟨rfl, rfl⟩
set_option maxHeartbeats 2000000 in
/-- An int is added: the row has it, wherever it lies now. -/
theorem wl_add {base : Nat} {v : Value} {zs : List Int} {x : Int} (w : World) (h : Hid (Row w X 69 [v])) (ho : Hid (w.ownsRow base 3 1 v zs.length (cellsI zs))) (hn : zs.length ≤ 1000000) (hb : base ≤ w.heap.size) (hx0 : -9223372036854775808 ≤ x) (hx1 : x ≤ 9223372036854775807) :
    Calls Try.prog 40 #[.pointer (some ⟨X, 0, none⟩), .int .i64 x] w fun e w' => e = .returned (.tuple #[]) ∧
      ∃ (w2 : World) (o : Obj) (v' : Value), w2.ownsRow base 3 1 v' (zs.length + 1) (cellsI zs ++ [.int .i64 x]) ∧ (w.alloc o).grownBy w2 v.ownBlock ∧ (∀ k, v'.ownBlock = some k → v.ownBlock = some k ∨ k = (w.alloc o).heap.size) ∧ Row w2 X 69 [v] ∧ w' = w2.setCell ⟨X, 0, none⟩ v' := by
  obtain ⟨i0, hi, hz0, hz1, hz2⟩ := info_parts infoI
  have q0 := h.out.cell (k := 0) rfl
  obtain ⟨A, c, rfl, -, -⟩ := own_form ho.out
  have NX := hide (show ∀ (w2 : World) (o : Obj), (w.alloc o).grownBy w2 (Value.slice A zs.length c).ownBlock → Row w2 X 69 [.slice A zs.length c] from fun w2 o hg => (h.out.alloc o).grown hg (fun q => by
    rcases fown_apart ho.out h.out (by decide) with q2 | q2
    · rw [q2] at q; cases q
    · exact q2 q.symm))
  have HO := hide (ho.out.alloc (.cells #[.int .i64 x] 3))
  have HB := hide (show base ≤ (w.alloc (.cells #[.int .i64 x] 3)).heap.size from Nat.le_trans hb (by simp))
  go_enter Try.func40, Try.ntmps40
  go_wp2_with (at_builtin; refine wpList_append_where rfl (.tmp 8) (.tmp 10) 38 rfl base 3 i0 (.int .i64 0) 1 8 Try.underlying38 hi hz0 hz1 hz2 rfl (by decide) _ zs.length (cellsI zs) rfl HO.out ⟨w.heap.size, 0, none⟩ 1 1 [.int .i64 x] rfl rfl (one_new _ _ _) (one_cell _) (by unfold maxLen; omega) (by omega) HB.out ?_)
  intro v7 w7 ho7 hg7 hw7
  obtain ⟨A7, c7, rfl, -, -⟩ := own_form ho7
  have R7 := NX.out _ _ hg7
  have z0 := R7.cell (k := 0) rfl
  have z1 := R7.free 0
  have HF := hide (show ∃ (w2 : World) (o : Obj) (v' : Value), w2.ownsRow base 3 1 v' (zs.length + 1) (cellsI zs ++ [.int .i64 x]) ∧ (w.alloc o).grownBy w2 (Value.slice A zs.length c).ownBlock ∧ (∀ k, v'.ownBlock = some k → (Value.slice A zs.length c).ownBlock = some k ∨ k = (w.alloc o).heap.size) ∧ Row w2 X 69 [.slice A zs.length c] ∧ w7.setCell ⟨X, 0, none⟩ (.slice A7 (zs.length + 1) c7) = w2.setCell ⟨X, 0, none⟩ v' from
    ⟨w7, _, _, ho7, hg7, fun k hk => by simpa using hw7 k hk, R7, rfl⟩)
  clear ho7 hg7 hw7 NX HO R7
  go_wp2_with fail
  go_end0
  exact ⟨rfl, HF.out⟩
end
/-- The list's last int is s. -/
def endB16 (zs : List Int) (s : Int) : Bool := match zs.getLast? with
  | none => false
  | some z => z == s
theorem ends_any {A : Option Addr} {n c : Nat} {zs : List Int} (s : Int) (w : World) (h : Hid (Lst w A n zs)) (hn : n ≤ 1000000) : Calls Try.prog 38 #[.slice A n c, .int .i64 s] w fun e w' => e = .returned (.bool (endB16 zs s)) ∧ Below w.heap.size w w' := by
  have hl := h.out.len
  rcases Nat.eq_zero_or_pos n with h0 | h0
  · subst h0
    have hz : zs = [] := List.eq_nil_of_length_eq_zero hl
    subst hz
    go_enter Try.func38, Try.ntmps38
    go_wp2_with fail
    go_ret
    exact ⟨rfl, Below.refl _ _⟩
  · obtain ⟨m, rfl⟩ : ∃ m, n = m + 1 := ⟨n - 1, by omega⟩
    obtain ⟨b, o, rfl, _, x0⟩ := int_at h.out.see (show m < zs.length by omega)
    have he : endB16 zs s = (zs[m]'(by omega) == s) := by
      unfold endB16
      rw [List.getLast?_eq_getElem?, show zs.length - 1 = m by omega, List.getElem?_eq_getElem (by omega)]
    rw [he]
    generalize zs[m]'(by omega) = y at x0
    have hw : IntKind.i64.wrap (((m : Int) + 1) - 1) = (m : Int) := by rw [IntKind.wrap_i64]; omega
    have hm0 : (0 : Int) < (m : Int) + 1 := by omega
    have hm1 : (0 : Int) ≤ (m : Int) := by omega
    have hm2 : (m : Int) < (m : Int) + 1 := by omega
    clear he
    go_enter Try.func38, Try.ntmps38
    go_wp2_with fail
    go_ret
    exact ⟨rfl, Below.refl _ _⟩
set_option maxHeartbeats 1000000 in
theorem ldefines_any (o a b c m s : Int) (w : World) : Calls Try.prog 39 #[iv o a b c m, .int .i64 s] w fun e w' => e = .returned (.bool (defB o && (a == s))) ∧ Below w.heap.size w w' := by
  obtain ⟨W, hW, hR, hB⟩ := ibox w o a b c m
  have HW := hide hW
  have HB := hide hB
  have x0 := hR.cell (k := 0) rfl
  have x1 := hR.cell (k := 1) rfl
  have x2 := hR.cell (k := 2) rfl
  have x3 := hR.cell (k := 3) rfl
  have x4 := hR.cell (k := 4) rfl
  have cd := edefines_any o a b c m W
  unfold DefPost at cd
  clear hW hR hB
  cases hu : defB o with
  | true =>
    rw [dfI_on hu, hu] at cd
    go_enter Try.func39, Try.ntmps39
    go_upto_region 1 with (fail)
    rw [HW.out]
    go_wp2_with fail
    refine cd.mono ?_
    rintro e w2 ⟨rfl, hb⟩
    have HB2 := hide (below_call HB.out hb)
    clear hb
    go_wp2_with fail
    go_ret
    exact ⟨rfl, HB2.out⟩
  | false =>
    rw [dfI_off hu, hu] at cd
    go_enter Try.func39, Try.ntmps39
    go_upto_region 1 with (fail)
    rw [HW.out]
    go_wp2_with fail
    refine cd.mono ?_
    rintro e w2 ⟨rfl, hb⟩
    have HB2 := hide (below_call HB.out hb)
    clear hb
    go_wp2_with fail
    go_ret
    exact ⟨rfl, HB2.out⟩
end Go.Proofs.Ytjbgepjdohfhkaa
end
