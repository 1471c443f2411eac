import Derived.Test.YtjgoldlebmfiiaaMMbas
import Derived.Test.YtjgoldlebmfiiaaMKe
set_option linter.unusedVariables false
set_option linter.unusedSimpArgs false
section
/-
  The contract of the reference's Baselines (chapter 26): the plain layouts of all functions. Conditions: what holds of a right program of at most 6 slots a function; the alignment is one.
-/
namespace Go.Proofs.Ytjgoldlebmfiiaa
open Go.RowKit

/-- A right program, as far as layouts ask. -/
structure LowPg (F : Pg) : Prop where
  few : F.length ≤ 80
  arg : ∀ f ∈ F, ArgOk F f.code
  slot : ∀ f ∈ F, ∀ u ∈ f.slots, slotB u.1 u.2 = true
  six : ∀ f ∈ F, f.slots.length ≤ 6
/-- The head y is the plain layout of a function. -/
structure LyRow (w : World) (base : Nat) (y : Fd) (F : Pg) (f : Fn) (al : Int) : Prop where
  p : y.p = argN F f.code * 16
  s : y.s = upM (basF (argN F f.code * 16) f.slots).2 al
  n : y.n = f.slots.length
  row : w.ownsRow base 3 1 (.slice y.a y.n y.c) y.n (cellsE (basF (argN F f.code * 16) f.slots).1)
def LyAll (w : World) (base : Nat) (ys : List Fd) (F : Pg) (al : Int) : Prop := ∀ (j : Nat) (y : Fd) (f : Fn), ys[j]? = some y → F[j]? = some f → LyRow w base y F f al
theorem own_apart {w : World} {b b' : Nat} {t t' : TypeId} {size size' : Nat} {v v' : Value} {n n' : Nat} {xs xs' : List Value} (h : w.ownsRow b t size v n xs) (h' : w.ownsRow b' t' size' v' n' xs') (ht : t ≠ t') : v.ownBlock = none ∨ v.ownBlock ≠ v'.ownBlock := by
  rcases ho : v.ownBlock with _ | k
  · exact .inl rfl
  · refine .inr fun e => ?_
    rcases h.2 with ⟨h1, _⟩ | ⟨g, cap, cur, h1, _, h2, _⟩
    · rw [h1] at ho; cases ho
    · rcases h'.2 with ⟨h3, _⟩ | ⟨g', cap', cur', h3, _, h4, _⟩
      · rw [h3] at e; cases e
      · rw [h1] at ho
        rw [h3] at e
        have e1 : g = k := by simpa [Value.ownBlock] using ho
        have e2 : g' = k := by simpa [Value.ownBlock] using e.symm
        subst e1 e2
        rw [h2] at h4
        injection h4 with h4
        injection h4 with _ h5
        exact ht h5
theorem LyRow.kept {w w' : World} {base : Nat} {y : Fd} {F : Pg} {f : Fn} {al : Int} {row : Option Nat} (h : LyRow w base y F f al) (hg : w.grownBy w' row) (hne : (Value.slice y.a y.n y.c).ownBlock = none ∨ (Value.slice y.a y.n y.c).ownBlock ≠ row) : LyRow w' base y F f al := ⟨h.p, h.s, h.n, h.row.kept hg hne⟩
theorem LyRow.call {w w' : World} {base : Nat} {y : Fd} {F : Pg} {f : Fn} {al : Int} (h : LyRow w base y F f al) (hb : Below w.heap.size w w') : LyRow w' base y F f al := h.kept (grown_below hb none) (by
  rcases ho : (Value.slice y.a y.n y.c).ownBlock with _ | k
  · exact .inl rfl
  · exact .inr (fun e => by cases e))
theorem LyAll.call {w w' : World} {base : Nat} {ys : List Fd} {F : Pg} {al : Int} (h : LyAll w base ys F al) (hb : Below w.heap.size w w') : LyAll w' base ys F al := fun j y f e1 e2 => (h j y f e1 e2).call hb
theorem LyAll.kept {w w' : World} {base : Nat} {ys : List Fd} {F : Pg} {al : Int} (h : LyAll w base ys F al) {b' : Nat} {t' : TypeId} {size' : Nat} {v' : Value} {n' : Nat} {xs' : List Value} (h' : w.ownsRow b' t' size' v' n' xs') (ht : 3 ≠ t') (hg : w.grownBy w' v'.ownBlock) : LyAll w' base ys F al := fun j y f e1 e2 => (h j y f e1 e2).kept hg (own_apart (h j y f e1 e2).row h' ht)
theorem Try.info79 : (Try.prog.info? 79).map (fun i => (i.zero, i.size, i.bytes)) = some (some (.agg #[.int .i64 0, .int .i64 0, .slice none 0 0]), 3, 40) := by kernel_rfl
def BlsPost (F : Pg) (al : Int) (n : Nat) (w : World) (e : Ending) (w' : World) : Prop :=
  ∃ (A : Option Addr) (c : Nat) (ys : List Fd), e = .returned (.tuple #[.slice A n c, .int .i64 0]) ∧ w'.ownsRow w.heap.size 79 3 (.slice A n c) n (fdcells ys) ∧ ys.length = n ∧ LyAll w' w.heap.size ys F al ∧ Below w.heap.size w w'

theorem LyAll.lower {w : World} {base base' : Nat} {ys : List Fd} {F : Pg} {al : Int} (h : LyAll w base ys F al) (hb : base' ≤ base) : LyAll w base' ys F al := fun j y f e1 e2 => ⟨(h j y f e1 e2).p, (h j y f e1 e2).s, (h j y f e1 e2).n, own_lower (h j y f e1 e2).row hb⟩
set_option maxRecDepth 100000 in
set_option maxHeartbeats 2000000 in
theorem rbases_any (A : Option Addr) (n c : Nat) (hs : List Hd) (F : Pg) (lo B : Nat) (al : Int) (w : World) (H : Hid (PgAt w lo B A n c hs F)) (hB : B ≤ w.heap.size) (hF : Hid (LowPg F)) (hal : Hid (powB al = true)) :
    Calls Try.prog 25 #[gv A n c, .int .i64 al] w (BlsPost F al n w) := by
  obtain ⟨i0, hi, hz0, hz1, hz2⟩ := info_parts Try.info79
  have HL := hide H.out.len
  have h80 : n ≤ 80 := by have := hF.out.few; have := HL.out; omega
  have hb1 := below1 w (.cells #[.slice A n c] 57)
  have R0 := Row.new w 57 [.slice A n c]
  obtain ⟨W1, hW1⟩ : ∃ V, w.alloc (.cells #[.slice A n c] 57) = V := ⟨_, rfl⟩
  rw [show ([.slice A n c] : List Value).toArray = #[.slice A n c] from rfl, hW1] at R0
  rw [hW1] at hb1
  have HW1 := hide hW1
  have HB1 := hide hb1
  have HR0 := hide R0
  clear hW1 hb1 R0
  go_enter Try.func25, Try.ntmps25
  go_upto_region 1 with (fail)
  rw [HW1.out]
  clear HW1
  go_wp2_with fail
  go_loopw [6, 7] (fun v s wr => ∃ (k : Nat) (A' : Option Addr) (c' : Nat) (ys : List Fd), k ≤ n ∧ s = .int .i64 k ∧ v = .slice A' k c' ∧ Hid (ys.length = k) ∧ Hid (wr.ownsRow W1.heap.size 79 3 (.slice A' k c') k (fdcells ys)) ∧ Hid (LyAll wr W1.heap.size ys F al) ∧ Hid (Below W1.heap.size W1 wr)) (fun _ s _ => n - (intOf s).toNat)
  case atStart => exact ⟨0, none, 0, [], by omega, rfl, rfl, hide rfl, hide (World.ownsRow_nil _ _ _ _), hide (fun j y f e1 e2 => by simp at e1), hide (Below.refl _ _)⟩
  case round =>
    obtain ⟨k, A', c', ys, hk, rfl, rfl, hyl, hown, hall, hbr⟩ := hrel
    have HBW := hide (HB1.out.trans (hbr.out.mono HB1.out.size))
    have t0 := (HR0.out.call hbr.out).cell (k := 0) rfl
    by_cases hlt : k < n
    · have hkl : k < F.length := by have := HL.out; omega
      have hx := List.getElem?_eq_getElem hkl
      have hm := List.getElem_mem hkl
      have cb := rbase_any A n c hs F lo B k F[k] al wr (hide (H.out.below (HBW.out.mono hB))) (Nat.le_trans hB HBW.out.size) (hide hx) (hide (hF.out.arg _ hm)) (hide (hF.out.slot _ hm)) (hF.out.six _ hm) hal
      have HX := hide hx
      obtain ⟨f, hf⟩ : ∃ f, F[k] = f := ⟨_, rfl⟩
      rw [hf] at cb HX
      have CB := hide cb
      clear cb hf hx hm
      go_upto_region 6 with (go_at_call 39; refine (CB.out).mono ?_; rintro e w3 ⟨A3, c3, rfl, ho3, hb3⟩)
      obtain ⟨a, ha⟩ : ∃ a, argN F f.code * 16 = a := ⟨_, rfl⟩
      obtain ⟨sz, hsz⟩ : ∃ a, upM (basF (argN F f.code * 16) f.slots).2 al = a := ⟨_, rfl⟩
      rw [ha] at hsz
      rw [ha, hsz]
      have HY := hide (show LyRow w3 W1.heap.size ⟨a, sz, A3, f.slots.length, c3⟩ F f al from ⟨ha.symm, by rw [ha, hsz], rfl, own_lower ho3 hbr.out.size⟩)
      obtain ⟨W4, hW4⟩ : ∃ V, w3.alloc (.cells #[.int .i64 a, .int .i64 sz, .slice A3 f.slots.length c3] 79) = V := ⟨_, rfl⟩
      have RL4 := hide (show Row W4 w3.heap.size 79 [.int .i64 a, .int .i64 sz, .slice A3 f.slots.length c3] by rw [← hW4]; exact Row.new w3 _ _)
      have hb34 : Below w3.heap.size w3 W4 := by rw [← hW4]; exact below1 _ _
      have HY4 := hide (HY.out.call hb34)
      have HA4 := hide ((hall.out.call hb3).call hb34)
      have HO4 : Hid (W4.ownsRow W1.heap.size 79 3 (.slice A' k c') k (fdcells ys)) := by
        have hg : wr.grownBy W4 none := grown_below (below_call hb3 hb34) none
        refine hide (hown.out.kept hg ?_)
        rcases ho : (Value.slice A' k c').ownBlock with _ | q
        · exact .inl rfl
        · exact .inr (fun e => by cases e)
      have HB4 := hide (show Below W1.heap.size W1 W4 from below_call (below_call hbr.out hb3) hb34)
      rw [hW4]
      clear hW4 hb34 HY hb3 ho3 t0 CB ha hsz
      have u0 := RL4.out.cell (k := 0) rfl
      have u1 := RL4.out.cell (k := 1) rfl
      have u2 := RL4.out.cell (k := 2) rfl
      have hcel := fun (j : Nat) (u : Value) (hu : ([.int .i64 a, .int .i64 sz, .slice A3 f.slots.length c3] : List Value)[j]? = some u) => (show (W4.alloc (.cells #[.int .i64 a, .int .i64 sz, .slice A3 f.slots.length c3] 79)).cell? ((⟨W4.heap.size, 0, none⟩ : Addr).add j) = some u by rw [WideShapes.add_plain, Nat.zero_add]; exact (Row.new W4 79 [.int .i64 a, .int .i64 sz, .slice A3 f.slots.length c3]).cell hu)
      have hone : ∀ u ∈ ([.int .i64 a, .int .i64 sz, .slice A3 f.slots.length c3] : List Value), u.oneCell' = true := fdcells_oneCell [⟨a, sz, A3, f.slots.length, c3⟩]
      have hbase : W1.heap.size ≤ (W4.alloc (.cells #[.int .i64 a, .int .i64 sz, .slice A3 f.slots.length c3] 79)).heap.size := by have := HB4.out.size; simp; omega
      go_wp2_with (at_builtin; refine wpList_append_own _ rfl (.tmp 27) (.tmp 29) 60 rfl W1.heap.size 79 i0 (.agg #[.int .i64 0, .int .i64 0, .slice none 0 0]) 3 40 Try.underlying60 hi hz0 hz1 hz2 rfl (by decide) (.slice A' k c') k (fdcells ys) rfl (HO4.out.alloc _) ⟨W4.heap.size, 0, none⟩ 1 1 [.int .i64 a, .int .i64 sz, .slice A3 f.slots.length c3] rfl rfl hcel hone (by unfold maxLen; omega) (by omega) hbase ?_)
      intro v2 w7 ho2 hg2 _
      obtain ⟨A7, c7, rfl, -, -, -, -⟩ := own_seen ho2
      have ho5 := HO4.out.alloc (.cells #[.int .i64 a, .int .i64 sz, .slice A3 f.slots.length c3] 79)
      have hb45 := below1 W4 (.cells #[.int .i64 a, .int .i64 sz, .slice A3 f.slots.length c3] 79)
      have HA7 := hide ((HA4.out.call hb45).kept ho5 (by decide) hg2)
      have HY7 := hide ((HY4.out.call hb45).kept hg2 (own_apart (HY4.out.call hb45).row ho5 (by decide)))
      have HB7 : Hid (Below W1.heap.size W1 w7) := hide ((below_call HB4.out hb45).grown hg2 (below_call HB4.out hb45).size (fun q hq => (ho5.lt q hq).1))
      have HO7 := hide (show w7.ownsRow W1.heap.size 79 3 (.slice A7 (k + 1) c7) (k + 1) (fdcells (ys ++ [⟨a, sz, A3, f.slots.length, c3⟩])) by rw [fdcells_append]; exact ho2)
      have HALL := hide (show LyAll w7 W1.heap.size (ys ++ [⟨a, sz, A3, f.slots.length, c3⟩]) F al from fun j y g e1 e2 => by
        rcases Nat.lt_or_ge j k with hj | hj
        · rw [List.getElem?_append_left (by have := hyl.out; omega)] at e1
          exact HA7.out j y g e1 e2
        · rw [List.getElem?_append_right (by have := hyl.out; omega), hyl.out] at e1
          rcases Nat.lt_or_ge (j - k) 1 with h1 | h1
          · obtain rfl : j = k := by omega
            simp at e1
            subst e1
            rw [HX.out] at e2
            injection e2 with e2
            subst e2
            exact HY7.out
          · rw [List.getElem?_eq_none (by simpa using h1)] at e1; cases e1)
      clear ho2 hg2 ho5 hb45 u0 u1 u2
      go_wp2_with fail
      go_roundw
      case rel => exact ⟨k + 1, A7, c7, _, by omega, by go_num, rfl, hide (by rw [List.length_append, hyl.out]; rfl), HO7, HALL, HB7⟩
      case measure => simp [intOf]; omega
    · obtain rfl : k = n := by omega
      go_wp2_with fail
      go_ret2
      exact ⟨A', c', ys, rfl, own_lower hown.out HB1.out.size, hyl.out, hall.out.lower HB1.out.size, HBW.out⟩
end Go.Proofs.Ytjgoldlebmfiiaa
end
