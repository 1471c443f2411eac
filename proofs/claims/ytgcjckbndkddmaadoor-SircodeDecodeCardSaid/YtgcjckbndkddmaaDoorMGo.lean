import Derived.Test.YtgcjckbndkddmaaDoorMGa
import Derived.Test.YtgcjckbndkddmaaDoorMGm
import Derived.Test.YtgcjckbndkddmaaDoorMGb
import Derived.Test.YtgcjckbndkddmaaDoorMGd
import Derived.Test.YtgcjckbndkddmaaDoorMGk
import Derived.Test.YtgcjckbndkddmaaDoorMGn
import Derived.Test.YtgcjckbndkddmaaDoorMGq
import Derived.Shelf.Spec.TrailingZeros
import Derived.Lib.BitFns
import Derived.ArgAppend
set_option linter.unusedVariables false
set_option linter.unusedSimpArgs false
section
/-
  The contract of math/bits.TrailingZeros64. Conditions: those of the types; it reads its table, which must lie as its initialiser lays it.
-/
namespace Go.Proofs.YtgcjckbndkddmaaDoor
open Go.RowKit

/-- The table of TrailingZeros64 lies in its variable. -/
def Tab (w : World) : Prop := TabAt 1 Lib.deBruijn64tab w
theorem Tab.pos {w : World} (h : Tab w) : 1 < w.heap.size := World.block_lt_of_cell? _ _ (h 0 (by decide))
theorem Tab.below {w w' : World} (h : Tab w) (hb : Below w.heap.size w w') : Tab w' := fun j hj => keep_cellB hb (h j hj)
theorem Tab.kept {B : Nat} {w w' : World} (h : Tab w) (hb : Below B w w') (hB : 1 < B) : Tab w' := fun j hj => (hb.cell (p := ⟨1, j, none⟩) hB).trans (h j hj)

set_option maxHeartbeats 400000 in
theorem tz_core (x k idx : Nat) (w : World) (hx1 : ((x : Int) == 0) = false)
    (key : IntKind.u64.wrap (bits BinOp.and IntKind.u64 (x : Int) (IntKind.u64.wrap (-(x : Int))) * 285870213051353865) / 288230376151711744 = (idx : Int))
    (hi : idx < 64) (hk : k < 64) (hcell : w.cell? ⟨1, idx, none⟩ = some (.int .u8 k)) :
    Calls Tryd.prog 78 #[.int .u64 x] w fun e w' => e = .returned (.int .i64 k) ∧ w = w' := by
  go_enter Tryd.func78, Tryd.ntmps78
  go_wp2_with (simp only [key])
  go_ret
  exact ⟨rfl, rfl⟩
theorem tz_any (x : Nat) (w : World) (hx : x < 18446744073709551616) (hx0 : x ≠ 0) (hT : Hid (Tab w)) : Calls Tryd.prog 78 #[.int .u64 x] w fun e w' => e = .returned (.int .i64 (Lib.ctz 64 x : Nat)) ∧ w = w' := by
  obtain ⟨hlow, hk⟩ := Lib.lowest_bit 64 x hx0 hx
  obtain ⟨hi, htab⟩ := Lib.deBruijn64_at _ hk
  have hcell := hT.out _ hi
  rw [htab] at hcell
  exact tz_core x _ _ w (by simp; omega) (tz64_key x _ hx hx0 hlow) hi hk hcell
end Go.Proofs.YtgcjckbndkddmaaDoor
end

section
/-
  The developers' writing: putWord, putNumber, putInstr; TrailingZeros of a power of two. Conditions: those of the types.
-/
namespace Go.Proofs.YtgcjckbndkddmaaDoor
open Go.RowKit

theorem addr_inj {a b c d : Nat} (h : some (⟨a, b, none⟩ : Addr) = some ⟨c, d, none⟩) : a = c ∧ b = d := by
  injection h with h
  injection h with h1 h2
  exact ⟨h1, h2⟩
/-- A row of bytes that has grown: it is where it was or in new memory; nothing else has changed. -/
def PwPost (base : Nat) (v : Value) (n : Nat) (ys : List Int) (w : World) (e : Ending) (w' : World) : Prop :=
  ∃ r, e = .returned r ∧ w'.ownsRow base 5 1 r n (cellsU8 ys) ∧ w.grownBy w' v.ownBlock ∧ ∀ k, r.ownBlock = some k → v.ownBlock = some k ∨ w.heap.size ≤ k

set_option maxHeartbeats 800000 in
theorem putw_any (base : Nat) (v : Value) (n : Nat) (zs : List Int) (x : Int) (w : World) (ho : Hid (w.ownsRow base 5 1 v n (cellsU8 zs))) (hb : Hid (base ≤ w.heap.size)) (hm : n ≤ 1099511627776) (h0 : 0 ≤ x) (hx : x ≤ 18446744073709551615) :
    Calls Tryd.prog 49 #[v, .int .u64 x] w (PwPost base v (n + lenv x.toNat) (zs ++ digsI x.toNat) w) := by
  obtain ⟨i0, hi, hz0, hz1, hz2⟩ := info_parts Tryd.info5
  have hl10 := lenv_le x.toNat (by omega)
  have hlp := lenv_pos x.toNat
  obtain ⟨A, c, rfl, -, -, -, -⟩ := own_seen ho.out
  have cp := put_any none 0 0 [] x 0 w (hide rfl) (by omega) (Sees.nil_ _ _ _) (hide (Nat.zero_le _)) h0 hx
  rw [Nat.zero_add, List.nil_append] at cp
  obtain ⟨m, hm'⟩ : ∃ m, lenv x.toNat = m := ⟨_, rfl⟩
  obtain ⟨ds, hds⟩ : ∃ d, digsI x.toNat = d := ⟨_, rfl⟩
  rw [hm', hds] at cp
  rw [hm'] at hl10 hlp ⊢
  rw [hds]
  have EC := hide (show cellsU8 (zs ++ ds) = cellsU8 zs ++ cellsU8 ds from cellsU8_app _ _)
  clear hm' hds
  go_enter Tryd.func49, Tryd.ntmps49
  go_wp2_with fail
  refine cp.mono ?_
  rintro e w1 ⟨r1, rfl, ho1, hb1⟩
  obtain ⟨g, c1, rfl, hg1, hg2, -, -⟩ := own_block ho1 (by omega)
  have O1 := hide ho1
  have OB := hide (own_below ho.out hb1)
  have HB := hide hb1
  have hsz := hb1.size
  have hl1 : (cellsU8 ds).length = m * 1 := ho1.1
  clear ho1 hb1 cp
  go_wp2_with (at_builtin; refine wpList_append_where rfl (.tmp 5) (.tmp 7) 22 rfl base 5 i0 (.int .u8 0) 1 1 Tryd.underlying22 hi hz0 hz1 hz2 rfl (by decide) _ n (cellsU8 zs) rfl OB.out ⟨g, 0, none⟩ m c1 (cellsU8 ds) rfl hl1 (O1.out.cells rfl) (one_u8 _) (by unfold maxLen; omega) (by omega) (by have := hb.out; omega) ?_)
  intro v' w2 ho2 hg2' hwh
  have FIN := hide (show PwPost base (.slice A n c) (n + m) (zs ++ ds) w (.returned v') w2 from ⟨v', rfl, by rw [EC.out]; exact ho2, (grown_below HB.out _).trans hg2', fun k hk => (hwh k hk).imp id (fun e => by omega)⟩)
  clear ho2 hg2' hwh
  go_wp2_with fail
  go_ret
  exact FIN.out

set_option maxHeartbeats 800000 in
theorem putn_any (base : Nat) (v : Value) (n : Nat) (zs : List Int) (x : Int) (w : World) (ho : Hid (w.ownsRow base 5 1 v n (cellsU8 zs))) (hb : Hid (base ≤ w.heap.size)) (hm : n ≤ 1099511627776) (h0 : 0 ≤ x) (hx : x ≤ 9223372036854775807) :
    Calls Tryd.prog 30 #[v, .int .i64 x] w (PwPost base v (n + lenv x.toNat) (zs ++ digsI x.toNat) w) := by
  have cw := putw_any base v n zs x w ho hb hm h0 (by omega)
  have hw := wrap_u64_in x h0 (by omega)
  obtain ⟨A, c, rfl, -, -, -, -⟩ := own_seen ho.out
  go_enter Tryd.func30, Tryd.ntmps30
  go_wp2_with fail
  refine cw.mono ?_
  rintro e w1 ⟨r, rfl, h1, h2, h3⟩
  have FIN := hide (show PwPost base (.slice A n c) (n + lenv x.toNat) (zs ++ digsI x.toNat) w (.returned r) w1 from ⟨r, rfl, h1, h2, h3⟩)
  clear h1 h2 h3 cw
  go_wp2_with fail
  go_ret
  exact FIN.out

set_option maxHeartbeats 800000 in
/-- The same, of bytes without room behind them. -/
theorem putw_lit (g n : Nat) (zs : List Int) (x : Int) (B : Nat) (w : World) (hn : Hid (zs.length = n)) (hs : Hid (Sees w B (some ⟨g, 0, none⟩) (cellsU8 zs))) (hB : B ≤ w.heap.size) (hm : n ≤ 1099511627776) (h0 : 0 ≤ x) (hx : x ≤ 18446744073709551615) :
    Calls Tryd.prog 49 #[.slice (some ⟨g, 0, none⟩) n n, .int .u64 x] w fun e w' => ∃ r, e = .returned r ∧ w'.ownsRow w.heap.size 5 1 r (n + lenv x.toNat) (cellsU8 (zs ++ digsI x.toNat)) ∧ Below w.heap.size w w' := by
  obtain ⟨i0, hi, hz0, hz1, hz2⟩ := info_parts Tryd.info5
  have hl10 := lenv_le x.toNat (by omega)
  have hlp := lenv_pos x.toNat
  have cp := put_any none 0 0 [] x 0 w (hide rfl) (by omega) (Sees.nil_ _ _ _) (hide (Nat.zero_le _)) h0 hx
  rw [Nat.zero_add, List.nil_append] at cp
  obtain ⟨m, hm'⟩ : ∃ m, lenv x.toNat = m := ⟨_, rfl⟩
  obtain ⟨ds, hds⟩ : ∃ d, digsI x.toNat = d := ⟨_, rfl⟩
  rw [hm', hds] at cp
  rw [hm'] at hl10 hlp ⊢
  rw [hds]
  have EC := hide (show cellsU8 (zs ++ ds) = cellsU8 zs ++ cellsU8 ds from cellsU8_app _ _)
  clear hm' hds
  go_enter Tryd.func49, Tryd.ntmps49
  go_wp2_with fail
  refine cp.mono ?_
  rintro e w1 ⟨r1, rfl, ho1, hb1⟩
  obtain ⟨g1, c1, rfl, hg1, hg2, -, -⟩ := own_block ho1 (by omega)
  have O1 := hide ho1
  have HB := hide hb1
  have hsz := hb1.size
  have hl1 : (cellsU8 ds).length = m * 1 := ho1.1
  have HO := hide (show ∀ j u, (cellsU8 zs)[j]? = some u → w1.cell? ⟨g, 0 + j, none⟩ = some u from fun j u hu => by
    obtain ⟨b', off', e, _, hc⟩ := (hs.out.below (hb1.mono hB)) j u hu
    obtain ⟨e1, e2⟩ := addr_inj e
    rw [e1, e2]
    exact hc)
  clear ho1 hb1 cp
  go_wp2_with (at_builtin; refine wpList_append_arg _ rfl (.tmp 5) (.tmp 7) 22 rfl 5 i0 (.int .u8 0) 1 1 Tryd.underlying22 hi hz0 hz1 hz2 rfl (by decide) g 0 n n (cellsU8 zs) rfl (by simp [cellsU8, hn.out]) HO.out ⟨g1, 0, none⟩ m c1 (cellsU8 ds) rfl hl1 (O1.out.cells rfl) (one_u8 _) (fun h => absurd h (by omega)) (by unfold maxLen; omega) (by omega) (fun h => absurd h (by omega)) ?_)
  intro _ v' w2 ho2 hg2'
  have HB2 := hide (HB.out.grown hg2' hsz (fun k hk => by cases hk))
  have HO2 := hide (show w2.ownsRow w.heap.size 5 1 v' (n + m) (cellsU8 (zs ++ ds)) by rw [EC.out]; exact own_less ho2 hsz)
  clear ho2 hg2'
  go_wp2_with fail
  go_ret
  exact ⟨_, rfl, HO2.out, HB2.out⟩

set_option maxHeartbeats 800000 in
theorem putn_lit (g n : Nat) (zs : List Int) (x : Int) (B : Nat) (w : World) (hn : Hid (zs.length = n)) (hs : Hid (Sees w B (some ⟨g, 0, none⟩) (cellsU8 zs))) (hB : B ≤ w.heap.size) (hm : n ≤ 1099511627776) (h0 : 0 ≤ x) (hx : x ≤ 9223372036854775807) :
    Calls Tryd.prog 30 #[.slice (some ⟨g, 0, none⟩) n n, .int .i64 x] w fun e w' => ∃ r, e = .returned r ∧ w'.ownsRow w.heap.size 5 1 r (n + lenv x.toNat) (cellsU8 (zs ++ digsI x.toNat)) ∧ Below w.heap.size w w' := by
  have cw := putw_lit g n zs x B w hn hs hB hm h0 (by omega)
  have hw := wrap_u64_in x h0 (by omega)
  go_enter Tryd.func30, Tryd.ntmps30
  go_wp2_with fail
  refine cw.mono ?_
  rintro e w1 ⟨r, rfl, h1, h2⟩
  have H1 := hide h1
  have H2 := hide h2
  clear h1 h2 cw
  go_wp2_with fail
  go_ret
  exact ⟨r, rfl, H1.out, H2.out⟩

theorem ctz_pow (k : Nat) (hk : k ≤ 24) : Lib.ctz 64 (2 ^ k) = k := by
  have h : ∀ j : Fin 25, Lib.ctz 64 (2 ^ j.val) = j.val := by decide +kernel
  exact h ⟨k, by omega⟩
set_option maxHeartbeats 400000 in
theorem tzp_any (k : Nat) (w : World) (hk : k ≤ 24) (hT : Hid (Tab w)) : Calls Tryd.prog 50 #[.int .u64 ((2 : Int) ^ k)] w fun e w' => e = .returned (.int .i64 (k : Int)) ∧ w = w' := by
  have h2 : 2 ^ k ≤ 2 ^ 24 := Nat.pow_le_pow_right (by omega) hk
  have h0 : 0 < 2 ^ k := Nat.pow_pos (by omega)
  have ct := tz_any (2 ^ k) w (by omega) (by omega) hT
  rw [ctz_pow k hk, show ((2 ^ k : Nat) : Int) = (2 : Int) ^ k by simp] at ct
  obtain ⟨x, hx⟩ : ∃ x, (2 : Int) ^ k = x := ⟨_, rfl⟩
  rw [hx] at ct ⊢
  clear hx h2 h0
  go_enter Tryd.func50, Tryd.ntmps50
  go_wp2_with fail
  refine ct.mono ?_
  rintro e w' ⟨rfl, rfl⟩
  go_wp2_with fail
  go_ret
  exact ⟨rfl, rfl⟩

/-- Operand i of an instruction; the bytes of the first i. -/
def opI (x : Ins) (i : Nat) : Int := if i = 0 then x.a else if i = 1 then x.b else x.c
def numY (x : Ins) : Nat → List Int
  | 0 => []
  | i + 1 => numY x i ++ digsI (opI x i).toNat
theorem numY_all {x : Ins} (h : InsW x) : x.op :: (numY x (cntOf x.op) ++ (if useI x.op then digsI x.imm.toNat else [])) = insY x := by
  obtain ⟨ua, ub, uc⟩ := cnt_uses h.o.1 h.o.2
  have hk := cnt_le x.op
  unfold insY opsY
  rw [ua, ub, uc]
  generalize cntOf x.op = k at hk ⊢
  rcases (show k = 0 ∨ k = 1 ∨ k = 2 ∨ k = 3 by omega) with h | h | h | h <;> subst h <;> simp [numY, opI, optY]
theorem opI_in {x : Ins} (h : InsW x) (i : Nat) : 0 ≤ opI x i ∧ opI x i ≤ 2147483647 := by
  unfold opI
  split
  · exact h.a
  · split
    · exact h.b
    · exact h.c
theorem numY_len {x : Ins} (h : InsW x) (i : Nat) : (numY x i).length ≤ i * 10 := by
  induction i with
  | zero => simp [numY]
  | succ i ih =>
    have h1 := opI_in h i
    have := lenv_31 (n := (opI x i).toNat) (by omega)
    simp only [numY, List.length_append, digsI_length]
    omega
theorem opI_at (x : Ins) {i : Nat} (h : i < 3) : ([.int .i64 x.a, .int .i64 x.b, .int .i64 x.c] : List Value)[i]? = some (.int .i64 (opI x i)) := by
  rcases (show i = 0 ∨ i = 1 ∨ i = 2 by omega) with rfl | rfl | rfl <;> rfl
/-- What putInstr's loop keeps. -/
def PiI (base : Nat) (v : Value) (n X M : Nat) (zs : List Int) (x : Ins) (w : World) (i : Nat) (r : Value) (wr : World) : Prop :=
  wr.ownsRow base 5 1 r (n + 1 + (numY x i).length) (cellsU8 (zs ++ x.op :: numY x i)) ∧ w.grownBy wr v.ownBlock ∧ (∀ k, r.ownBlock = some k → v.ownBlock = some k ∨ (w.heap.size < k ∧ k ≠ M)) ∧
    Row wr X 49 [.int .i64 x.op, .int .i64 x.a, .int .i64 x.b, .int .i64 x.c, .int .u64 x.imm] ∧ Row wr M 3 [.int .i64 x.a, .int .i64 x.b, .int .i64 x.c]

set_option maxRecDepth 100000 in
set_option maxHeartbeats 2000000 in
theorem puti_any (base : Nat) (v : Value) (n : Nat) (zs : List Int) (x : Ins) (w : World) (ho : Hid (w.ownsRow base 5 1 v n (cellsU8 zs))) (hb : Hid (base ≤ w.heap.size)) (hm : n ≤ 1073741824) (HX : Hid (InsW x)) :
    Calls Tryd.prog 51 #[v, iv x.op x.a x.b x.c x.imm] w (PwPost base v (n + (insY x).length) (zs ++ insY x) w) := by
  obtain ⟨i0, hi, hz0, hz1, hz2⟩ := info_parts Tryd.info5
  have ho0 := HX.out.o.1
  have ho1 := HX.out.o.2
  have hwo : IntKind.u8.wrap x.op = x.op := by rw [IntKind.wrap_u8']; omega
  obtain ⟨W, hW⟩ : ∃ W, w.alloc (.cells #[.int .i64 x.op, .int .i64 x.a, .int .i64 x.b, .int .i64 x.c, .int .u64 x.imm] 49) = W := ⟨_, rfl⟩
  have HW := hide hW
  have XW := hide (show Row W w.heap.size 49 [.int .i64 x.op, .int .i64 x.a, .int .i64 x.b, .int .i64 x.c, .int .u64 x.imm] by rw [← hW]; exact Row.new w _ _)
  have OW := hide (show W.ownsRow base 5 1 v n (cellsU8 zs) by rw [← hW]; exact ho.out.alloc _)
  have GW := hide (show w.grownBy W v.ownBlock by rw [← hW]; exact World.grownBy_alloc _ _ _)
  have HWs := hide (show W.heap.size = w.heap.size + 1 by rw [← hW]; simp)
  have x0 := XW.out.cell (k := 0) rfl
  have hvb := hide (show ∀ k, v.ownBlock = some k → k < w.heap.size from fun k hk => (ho.out.lt k hk).2)
  obtain ⟨A, c, rfl, -, -, -, -⟩ := own_seen ho.out
  obtain ⟨v, hv⟩ : ∃ v, Value.slice A n c = v := ⟨_, rfl⟩
  have HV := hide hv
  rw [hv] at OW GW hvb
  clear hW hv
  go_enter Tryd.func51, Tryd.ntmps51
  go_upto_region 1 with (fail)
  rw [HW.out]
  clear HW
  go_wp2_with (at_builtin; refine wpList_append_where rfl (.tmp 9) (.tmp 13) 22 rfl base 5 i0 (.int .u8 0) 1 1 Tryd.underlying22 hi hz0 hz1 hz2 rfl (by decide) _ n (cellsU8 zs) HV.out (OW.out.alloc _) ⟨W.heap.size, 0, none⟩ 1 1 [.int .u8 x.op] rfl rfl (one_new _ _ _) (one_byte _) (by unfold maxLen; omega) (by omega) (by have := hb.out; have := HWs.out; simp; omega) ?_)
  intro v1 w1 hoA hgA hwA
  have HA := hide (show w1.ownsRow base 5 1 v1 (n + 1) (cellsU8 (zs ++ [x.op])) by rw [cellsU8_app]; exact hoA)
  have hszA : W.heap.size + 1 ≤ w1.heap.size := by have := hgA.size; simpa using this
  have GA := hide ((GW.out.trans (World.grownBy_alloc W (.cells #[.int .u8 x.op] 5) v.ownBlock)).trans hgA)
  have BA := hide (show ∀ k, v1.ownBlock = some k → v.ownBlock = some k ∨ w.heap.size < k from fun k hk => (hwA k hk).imp id (fun e => by have := HWs.out; rw [e]; simp; omega))
  have XA := hide ((XW.out.alloc (.cells #[.int .u8 x.op] 5)).grown hgA (fun e => by have := hvb.out _ e.symm; omega))
  have cp := fun w => dopd_any x.op w ho0 ho1
  obtain ⟨k, hk⟩ : ∃ k, cntOf x.op = k := ⟨_, rfl⟩
  obtain ⟨ui, hu⟩ : ∃ u, useI x.op = u := ⟨_, rfl⟩
  have ALL := hide (show x.op :: (numY x k ++ (if ui then digsI x.imm.toNat else [])) = insY x by rw [← hk, ← hu]; exact numY_all HX.out)
  have hk3 : k ≤ 3 := by rw [← hk]; exact cnt_le _
  rw [hk, hu] at cp
  obtain ⟨A1, c1, rfl, -, -, -, -⟩ := own_seen HA.out
  obtain ⟨v1, hv1⟩ : ∃ v, Value.slice A1 (n + 1) c1 = v := ⟨_, rfl⟩
  have HV1 := hide hv1
  rw [hv1] at HA BA
  have y0 := XA.out.cell (k := 0) rfl
  have y1 := XA.out.cell (k := 1) rfl
  have y2 := XA.out.cell (k := 2) rfl
  have y3 := XA.out.cell (k := 3) rfl
  clear hoA hgA hwA hk hu hv1 x0 OW GW XW
  go_wp2_with fail
  refine (cp _).mono ?_
  rintro e w' ⟨rfl, rfl⟩
  have hkz : (0 : Int) ≤ (k : Int) := by omega
  have hkz3 : (k : Int) ≤ 3 := by omega
  go_upto_region 4 with (fail)
  obtain ⟨M, hM⟩ : ∃ M, w1.heap.size = M := ⟨_, rfl⟩
  obtain ⟨W2, hW2⟩ : ∃ W2, w1.alloc (.cells #[.int .i64 x.a, .int .i64 x.b, .int .i64 x.c] 3) = W2 := ⟨_, rfl⟩
  have hwM : w.heap.size < M := by have := HWs.out; omega
  have PI := hide (show PiI base v n w.heap.size M zs x w 0 v1 W2 from ⟨by rw [← hW2]; exact HA.out.alloc _, by rw [← hW2]; exact GA.out.trans (World.grownBy_alloc _ _ _), fun k hk => (BA.out k hk).imp id (fun e => ⟨e, by have := (HA.out.lt k hk).2; omega⟩), by rw [← hW2]; exact XA.out.alloc _, by rw [← hW2, ← hM]; exact Row.new w1 3 [.int .i64 x.a, .int .i64 x.b, .int .i64 x.c]⟩)
  rw [hW2, hM, HV1.out]
  clear hW2 hM HA GA BA XA y0 y1 y2 y3 HV1 cp
  go_loopw [0, 8, 31] (fun bv _ iv wr => ∃ (i : Nat) (r : Value), i ≤ k ∧ iv = .int .i64 (i : Int) ∧ r = bv ∧ Hid (PiI base v n w.heap.size M zs x w i r wr)) (fun _ _ iv _ => k - (intOf iv).toNat)
  case atStart => exact ⟨0, v1, Nat.zero_le _, rfl, rfl, PI⟩
  case round =>
    obtain ⟨i, bv, hik, rfl, rfl, hP⟩ := hrel
    obtain ⟨h1, h2, h3, h4, h5⟩ := hP.out
    have H1 := hide h1
    have H2 := hide h2
    have H3 := hide h3
    have H4 := hide h4
    have H5 := hide h5
    have hln := numY_len HX.out i
    clear h1 h2 h3 h4 h5 PI
    by_cases hlt : i < k
    · have hlz : (i : Int) < (k : Int) := by omega
      have hiz : (0 : Int) ≤ (i : Int) := by omega
      have m0 := H5.out.cell (opI_at x (by omega : i < 3))
      have hin := opI_in HX.out i
      obtain ⟨p, hp⟩ : ∃ p, opI x i = p := ⟨_, rfl⟩
      rw [hp] at m0 hin
      have NY := hide (show zs ++ x.op :: numY x i ++ digsI p.toNat = zs ++ x.op :: numY x (i + 1) by simp [numY, hp])
      have NL := hide (show n + 1 + (numY x i).length + lenv p.toNat = n + 1 + (numY x (i + 1)).length by simp [numY, hp, digsI_length]; omega)
      have cn := putn_any base bv (n + 1 + (numY x i).length) (zs ++ x.op :: numY x i) p wr H1 (hide (Nat.le_trans hb.out H2.out.size)) (by omega) hin.1 (by omega)
      rw [NY.out, NL.out] at cn
      clear hp NY NL
      go_wp2_with fail
      refine cn.mono ?_
      rintro e w3 ⟨r, rfl, hr1, hr2, hr3⟩
      have HN := hide (show PiI base v n w.heap.size M zs x w (i + 1) r w3 from by
        have hnb : ∀ j, bv.ownBlock = some j → v.ownBlock = some j ∨ w.heap.size < j := fun j hj => (H3.out j hj).imp id (fun e => e.1)
        have hML := H5.out.lt
        refine ⟨hr1, H2.out.andThen hr2 (fun j hj => (hnb j hj).symm.imp (fun e => by omega) id), fun j hj => ?_, H4.out.grown hr2 (fun e => ?_), H5.out.grown hr2 (fun e => ?_)⟩
        · rcases hr3 j hj with e | e
          · exact H3.out j e
          · exact .inr ⟨by omega, by omega⟩
        · rcases H3.out _ e.symm with e | e
          · have := hvb.out _ e; omega
          · omega
        · rcases H3.out _ e.symm with e | e
          · have := hvb.out _ e; omega
          · exact e.2 rfl)
      clear hr1 hr2 hr3 cn H1 H2 H3 H4 H5 hP m0
      go_wp2_with fail
      go_roundw
      case rel => exact ⟨i + 1, r, by omega, by go_num, rfl, HN⟩
      case measure => simp [intOf]; omega
    · have hi2 : k = i := by omega
      subst hi2
      have hlz : ¬ ((k : Int) < (k : Int)) := by omega
      cases ui with
      | false =>
        have FIN := hide (show PwPost base (.slice A n c) (n + (insY x).length) (zs ++ insY x) w (.returned bv) wr from by
          have e1 := ALL.out
          simp only [Bool.false_eq_true, if_false, List.append_nil] at e1
          rw [HV.out, ← e1]
          refine ⟨bv, rfl, by rw [List.length_cons, show n + ((numY x k).length + 1) = n + 1 + (numY x k).length by omega]; exact H1.out, H2.out, fun j hj => (H3.out j hj).imp id (fun e => by omega)⟩)
        clear hlt H1 H2 H3 H4 H5 hP
        go_wp2_with fail
        go_ret
        exact FIN.out
      | true =>
        have x4 := H4.out.cell (k := 4) rfl
        have himm := HX.out.m
        have cw := putw_any base bv (n + 1 + (numY x k).length) (zs ++ x.op :: numY x k) x.imm wr H1 (hide (Nat.le_trans hb.out H2.out.size)) (by omega) himm.1 himm.2
        have NY := hide (show zs ++ x.op :: numY x k ++ digsI x.imm.toNat = zs ++ insY x by
          have e1 := ALL.out
          simp only [if_true] at e1
          rw [← e1]; simp)
        have NL := hide (show n + 1 + (numY x k).length + lenv x.imm.toNat = n + (insY x).length by
          have e1 := congrArg List.length ALL.out
          simp only [if_true, List.length_cons, List.length_append, digsI_length] at e1
          omega)
        rw [NY.out, NL.out] at cw
        clear hlt NY NL
        go_wp2_with fail
        refine cw.mono ?_
        rintro e w3 ⟨r, rfl, hr1, hr2, hr3⟩
        have FIN := hide (show PwPost base (.slice A n c) (n + (insY x).length) (zs ++ insY x) w (.returned r) w3 from by
          rw [HV.out]
          refine ⟨r, rfl, hr1, H2.out.andThen hr2 (fun j hj => ((H3.out j hj).symm.imp (fun e => by omega) id)), fun j hj => ?_⟩
          rcases hr3 j hj with e | e
          · exact (H3.out j e).imp id (fun e => by omega)
          · exact .inr (Nat.le_trans H2.out.size e))
        clear hr1 hr2 hr3 cw H1 H2 H3 H4 H5 hP x4
        go_wp2_with fail
        go_ret
        exact FIN.out
end Go.Proofs.YtgcjckbndkddmaaDoor
end

section
/-
  The developers' describe and Encode. Conditions: those of the types; the tables of operations and of TrailingZeros64 lie as their initialisers lay them.
-/
namespace Go.Proofs.YtgcjckbndkddmaaDoor
open Go.RowKit

theorem RowI.put {W wr w' : World} {v r : Value} {ys ys' : List Int} {n' : Nat} (h : RowI W v ys wr) (h1 : w'.ownsRow W.heap.size 5 1 r n' (cellsU8 ys')) (h2 : wr.grownBy w' v.ownBlock) : RowI W r ys' w' := by
  obtain ⟨hb, n, ho⟩ := h
  exact ⟨hb.grown h2 hb.size (fun k hk => (ho.lt k hk).1), n', h1⟩
theorem RowI.alloc {W wr : World} {v : Value} {ys : List Int} (h : RowI W v ys wr) (o : Obj) : RowI W v ys (wr.alloc o) := by
  obtain ⟨hb, n, ho⟩ := h
  exact ⟨hb.alloc hb.size _, n, ho.alloc _⟩

set_option maxRecDepth 100000 in
set_option maxHeartbeats 2400000 in
theorem ddesc_any (w : World) (lo : Nat) (P : Int) (A1 : Option Addr) (n1 c1 : Nat) (A2 : Option Addr) (n2 c2 : Nat) (f : Fn) (HF : Hid (HdAt w lo w.heap.size ⟨P, A1, n1, c1, A2, n2, c2⟩ f)) (FW : Hid (FnW f)) (hT : Hid (Tab w)) :
    Calls Tryd.prog 31 #[fv P A1 n1 c1 A2 n2 c2] w fun e w' => ∃ r, e = .returned r ∧ w'.ownsRow w.heap.size 5 1 r (fnY f).length (cellsU8 (fnY f)) ∧ Below w.heap.size w w' := by
  have hl1 : f.slots.length = n1 := HF.out.l1
  have hl2 : f.code.length = n2 := HF.out.l2
  have hP : P = f.params := HF.out.p
  have hP0 : 0 ≤ P ∧ P ≤ 2147483647 := by rw [hP]; exact FW.out.p
  have hn1 : n1 ≤ 512 := by rw [← hl1]; exact FW.out.s
  have hn2 : n2 ≤ 1024 := by rw [← hl2]; exact FW.out.c
  have HL1 := hide hl1
  have HL2 := hide hl2
  have HP := hide hP
  have q10 := lenv_31 (n := P.toNat) (by omega)
  have q11 := lenv_31 (n := n1) (by omega)
  have q12 := lenv_31 (n := n2) (by omega)
  have B1 := hide (take_flat_le (f := slY) (l := f.slots) (m := 20) (fun s h => slY_len (FW.out.sl s h)))
  have B2 := hide (take_flat_le (f := insY) (l := f.code) (m := 41) (fun x h => insY_len (FW.out.cd x h)))
  obtain ⟨W, hW⟩ : ∃ W, w.alloc (.cells #[.int .i64 P, .slice A1 n1 c1, .slice A2 n2 c2] 53) = W := ⟨_, rfl⟩
  have HW := hide hW
  have rf := hide (show Row W w.heap.size 53 [.int .i64 P, .slice A1 n1 c1, .slice A2 n2 c2] by rw [← hW]; exact Row.new w _ _)
  have hbW := hide (show Below w.heap.size w W by rw [← hW]; exact below1 w _)
  have HFW := hide (show HdAt W lo W.heap.size ⟨P, A1, n1, c1, A2, n2, c2⟩ f by rw [← hW]; exact (HF.out.keep (fun p _ hp => World.cell?_alloc_lt w _ p hp)).more (by simp) (Nat.le_refl _))
  have g0 := rf.out.cell (k := 0) rfl
  have cP := putn_any W.heap.size (.slice none 0 0) 0 [] P W (hide (World.ownsRow_nil _ _ _ _)) (hide (Nat.le_refl _)) (by omega) hP0.1 (by omega)
  rw [Nat.zero_add, List.nil_append] at cP
  clear hW hl1 hl2 hP
  go_enter Tryd.func31, Tryd.ntmps31
  go_upto_region 1 with (fail)
  rw [HW.out]
  clear HW
  go_wp2_with fail
  refine cP.mono ?_
  rintro e wa ⟨r1, rfl, ho1, hg1, -⟩
  have R1 := hide (show RowI W r1 (digsI P.toNat) wa from RowI.put (ys := []) ⟨Below.refl _ _, 0, World.ownsRow_nil _ _ _ _⟩ ho1 hg1)
  have O1 := hide ho1
  have g1 := (rf.out.call R1.out.1).cell (k := 1) rfl
  have cN := putn_any W.heap.size r1 (lenv P.toNat) (digsI P.toNat) (n1 : Int) wa O1 (hide R1.out.1.size) (by omega) (by omega) (by omega)
  rw [show (n1 : Int).toNat = n1 from Int.toNat_natCast n1] at cN
  clear ho1 hg1 cP g0
  go_wp2_with fail
  refine cN.mono ?_
  rintro e wb ⟨r2, rfl, ho2, hg2, -⟩
  have R2 := hide (R1.out.put ho2 hg2)
  have g1b := (rf.out.call R2.out.1).cell (k := 1) rfl
  clear ho2 hg2 cN g1 R1 O1
  go_wp2_with fail
  clear g1b
  go_loopw [3, 5, 19] (fun bv _ kv wr => ∃ (i : Nat) (r : Value), i ≤ n1 ∧ kv = .int .i64 (i : Int) ∧ r = bv ∧ Hid (RowI W r (digsI P.toNat ++ digsI n1 ++ (f.slots.take i).flatMap slY) wr)) (fun _ _ kv _ => n1 - (intOf kv).toNat)
  case atStart => exact ⟨0, r2, Nat.zero_le _, rfl, rfl, by simpa using R2⟩
  case round =>
    obtain ⟨i, bv, hin, rfl, rfl, hR⟩ := hrel
    obtain ⟨hB, nb, ho⟩ := hR.out
    have HB := hide hB
    have HO := hide ho
    have hnb := RowI.len ho
    have u1 := (rf.out.call hB).cell (k := 1) rfl
    have u2 := (rf.out.call hB).cell (k := 2) rfl
    have hbl := B1.out i
    have hnb2 : nb ≤ 20 + n1 * 20 := by rw [← hnb]; simp only [List.length_append, digsI_length]; rw [HL1.out] at hbl; omega
    clear hB ho R2
    by_cases hlt : i < n1
    · have hlz : (i : Int) < (n1 : Int) := by omega
      have hiz : (0 : Int) ≤ (i : Int) := by omega
      have hil : i < f.slots.length := by rw [HL1.out]; exact hlt
      obtain ⟨b1, off1, hA, hbb, s0, s1⟩ := pair_at (HFW.out.below HB.out).s1 hil
      simp only at hA
      subst hA
      have hsw := FW.out.sl _ (List.getElem_mem hil)
      obtain ⟨k, hk, hk2, hk3⟩ := expo_cell hsw
      have hsz := hsw.1
      have HT := hide (show (f.slots.take (i + 1)).flatMap slY = (f.slots.take i).flatMap slY ++ (digsI (f.slots[i].1).toNat ++ digsI k) by rw [take_flat hil]; unfold slY; rw [hk3])
      rw [hk2] at s1
      obtain ⟨sz, hsz'⟩ : ∃ s, f.slots[i].1 = s := ⟨_, rfl⟩
      rw [hsz'] at s0 hsz HT
      have q13 := lenv_31 (n := sz.toNat) (by omega)
      have hwk := wrap_u64_in ((2 : Int) ^ k) (by have : (0 : Int) < 2 ^ k := Int.pow_pos (by omega); omega) (by
        have h1 : ((2 : Int) ^ k) = ((2 ^ k : Nat) : Int) := by simp
        have h2 : 2 ^ k ≤ 2 ^ 24 := Nat.pow_le_pow_right (by omega) hk
        rw [h1]; omega)
      obtain ⟨ys, hys⟩ : ∃ ys, digsI P.toNat ++ digsI n1 ++ (f.slots.take i).flatMap slY = ys := ⟨_, rfl⟩
      rw [hys] at HO hnb hR
      obtain ⟨m3, hm3'⟩ : ∃ m, nb + lenv sz.toNat = m := ⟨_, rfl⟩
      obtain ⟨y3, hy3'⟩ : ∃ y, ys ++ digsI sz.toNat = y := ⟨_, rfl⟩
      have hm3b : m3 ≤ 20 + n1 * 20 + 10 := by omega
      have Hys := hide hys
      have HY3 := hide hy3'
      obtain ⟨Wx, hWx⟩ : ∃ Wx, wr.alloc (.cells #[.int .i64 sz, .int .i64 ((2 : Int) ^ k)] 62) = Wx := ⟨_, rfl⟩
      have HWx := hide hWx
      obtain ⟨T, hT'⟩ : ∃ T, wr.heap.size = T := ⟨_, rfl⟩
      have HTT := hide hT'
      have RX := hide (show RowI W bv ys Wx by rw [← hWx]; exact hR.out.alloc _)
      have XX := hide (show Row Wx T 62 [.int .i64 sz, .int .i64 ((2 : Int) ^ k)] by rw [← hWx, ← hT']; exact Row.new wr 62 [.int .i64 sz, .int .i64 ((2 : Int) ^ k)])
      have OX := hide (show Wx.ownsRow W.heap.size 5 1 bv nb (cellsU8 ys) by rw [← hWx]; exact HO.out.alloc _)
      have hbT := hide (show ∀ j, bv.ownBlock = some j → j < T from fun j hj => by rw [← hT']; exact (HO.out.lt j hj).2)
      have c0 := XX.out.cell (k := 0) rfl
      have cS := putn_any W.heap.size bv nb ys sz Wx OX (hide RX.out.1.size) (by omega) hsz.1 (by omega)
      rw [hm3', hy3'] at cS
      clear hsw hk2 hk3 hsz' u2 hm3' hy3' hys hbl q10 q11 q12 q13 hWx hT'
      go_upto_region 6 with (fail)
      rw [HWx.out, HTT.out]
      clear HWx HTT
      go_wp2_with fail
      refine cS.mono ?_
      rintro e w3 ⟨r3, rfl, ho3, hg3, -⟩
      have R3 := hide (RX.out.put ho3 hg3)
      have X3 := hide (XX.out.grown hg3 (fun e => by have := hbT.out _ e.symm; omega))
      have O3 := hide ho3
      have c1' := X3.out.cell (k := 1) rfl
      have ctz := tzp_any k w3 hk (hide (hT.out.below (hbW.out.trans (R3.out.1.mono hbW.out.size))))
      have cK := putn_any W.heap.size r3 m3 y3 (k : Int) w3 O3 (hide R3.out.1.size) (by omega) (by omega) (by omega)
      rw [show (k : Int).toNat = k from Int.toNat_natCast k] at cK
      clear ho3 hg3 cS c0 RX XX OX
      go_wp2_with fail
      refine ctz.mono ?_
      rintro e w' ⟨rfl, rfl⟩
      go_wp2_with fail
      refine cK.mono ?_
      rintro e w4 ⟨r4, rfl, ho4, hg4, -⟩
      have HN := hide (show RowI W r4 (digsI P.toNat ++ digsI n1 ++ (f.slots.take (i + 1)).flatMap slY) w4 from by
        have h1 := R3.out.put ho4 hg4
        rw [HT.out, ← List.append_assoc, Hys.out, ← List.append_assoc, HY3.out]
        exact h1)
      clear ho4 hg4 cK ctz R3 X3 O3 c1'
      go_wp2_with fail
      go_roundw
      case rel => exact ⟨i + 1, r4, by omega, by go_num, rfl, HN⟩
      case measure => simp [intOf]; omega
    · have hi2 : n1 = i := by omega
      subst hi2
      have hlt' : ¬ ((n1 : Int) < (n1 : Int)) := by omega
      obtain ⟨ys, hys⟩ : ∃ ys, digsI P.toNat ++ digsI n1 ++ (f.slots.take n1).flatMap slY = ys := ⟨_, rfl⟩
      rw [hys] at HO hnb hR
      rw [List.take_of_length_le (by rw [HL1.out]; exact Nat.le_refl _)] at hys
      have Hys := hide hys
      have cC := putn_any W.heap.size bv nb ys (n2 : Int) wr HO (hide HB.out.size) (by omega) (by omega) (by omega)
      rw [show (n2 : Int).toNat = n2 from Int.toNat_natCast n2] at cC
      obtain ⟨y5, hy5⟩ : ∃ y, ys ++ digsI n2 = y := ⟨_, rfl⟩
      have hy5l : y5.length ≤ 30 + n1 * 20 + 20 := by rw [← hy5, List.length_append, hnb, digsI_length]; omega
      rw [hy5] at cC
      have HY5 := hide hy5
      clear hys hbl hlt hy5
      go_wp2_with fail
      refine cC.mono ?_
      rintro e wd ⟨r5, rfl, ho5, hg5, -⟩
      have R5 := hide (hR.out.put ho5 hg5)
      have u2d := (rf.out.call R5.out.1).cell (k := 2) rfl
      clear ho5 hg5 cC HO hnb u1 u2
      go_wp2_with fail
      clear u2d
      go_loopw [3, 7, 42] (fun bv _ kv wr => ∃ (i : Nat) (r : Value), i ≤ n2 ∧ kv = .int .i64 (i : Int) ∧ r = bv ∧ Hid (RowI W r (y5 ++ (f.code.take i).flatMap insY) wr)) (fun _ _ kv _ => n2 - (intOf kv).toNat)
      case atStart => exact ⟨0, r5, Nat.zero_le _, rfl, rfl, by simpa using R5⟩
      case round =>
        obtain ⟨i, bv, hin, rfl, rfl, hR⟩ := hrel
        obtain ⟨hB, nb, ho⟩ := hR.out
        have HB := hide hB
        have HO := hide ho
        have hnb := RowI.len ho
        have u2 := (rf.out.call hB).cell (k := 2) rfl
        have hbl := B2.out i
        have hnb2 : nb ≤ 50 + n1 * 20 + n2 * 41 := by rw [← hnb]; simp only [List.length_append]; rw [HL2.out] at hbl; omega
        clear hB ho R5
        by_cases hlt : i < n2
        · have hlz : (i : Int) < (n2 : Int) := by omega
          have hiz : (0 : Int) ≤ (i : Int) := by omega
          have hil : i < f.code.length := by rw [HL2.out]; exact hlt
          obtain ⟨b2, off2, hA, hbb, x0, x1, x2, x3, x4⟩ := ins_at (HFW.out.below HB.out).s2 hil
          simp only at hA
          subst hA
          have hxw := FW.out.cd _ (List.getElem_mem hil)
          have HT := hide (take_flat (f := insY) hil)
          obtain ⟨x, hx⟩ : ∃ x, f.code[i] = x := ⟨_, rfl⟩
          rw [hx] at x0 x1 x2 x3 x4 hxw HT
          obtain ⟨ys2, hys2⟩ : ∃ y, y5 ++ (f.code.take i).flatMap insY = y := ⟨_, rfl⟩
          rw [hys2] at HO hnb hR
          have Hys2 := hide hys2
          obtain ⟨Wx, hWx⟩ : ∃ Wx, wr.alloc (.cells #[.int .i64 x.op, .int .i64 x.a, .int .i64 x.b, .int .i64 x.c, .int .u64 x.imm] 49) = Wx := ⟨_, rfl⟩
          have HWx := hide hWx
          obtain ⟨T, hT'⟩ : ∃ T, wr.heap.size = T := ⟨_, rfl⟩
          have HTT := hide hT'
          have RX := hide (show RowI W bv ys2 Wx by rw [← hWx]; exact hR.out.alloc _)
          have XX := hide (show Row Wx T 49 [.int .i64 x.op, .int .i64 x.a, .int .i64 x.b, .int .i64 x.c, .int .u64 x.imm] by rw [← hWx, ← hT']; exact Row.new wr 49 [.int .i64 x.op, .int .i64 x.a, .int .i64 x.b, .int .i64 x.c, .int .u64 x.imm])
          have OX := hide (show Wx.ownsRow W.heap.size 5 1 bv nb (cellsU8 ys2) by rw [← hWx]; exact HO.out.alloc _)
          have d0 := XX.out.cell (k := 0) rfl
          have d1 := XX.out.cell (k := 1) rfl
          have d2 := XX.out.cell (k := 2) rfl
          have d3 := XX.out.cell (k := 3) rfl
          have d4 := XX.out.cell (k := 4) rfl
          have cI := puti_any W.heap.size bv nb ys2 x Wx OX (hide RX.out.1.size) (by omega) (hide hxw)
          clear hys2 hbl hx hWx hT' hxw
          go_upto_region 13 with (fail)
          rw [HWx.out, HTT.out]
          clear HWx HTT
          go_wp2_with fail
          refine cI.mono ?_
          rintro e w6 ⟨r6, rfl, ho6, hg6, -⟩
          have HN := hide (show RowI W r6 (y5 ++ (f.code.take (i + 1)).flatMap insY) w6 from by
            have h1 := RX.out.put ho6 hg6
            rw [HT.out, ← List.append_assoc, Hys2.out]
            exact h1)
          clear ho6 hg6 cI RX XX OX d0 d1 d2 d3 d4 x0 x1 x2 x3 x4 u2
          go_wp2_with fail
          go_roundw
          case rel => exact ⟨i + 1, r6, by omega, by go_num, rfl, HN⟩
          case measure => simp [intOf]; omega
        · have hi2 : n2 = i := by omega
          subst hi2
          have hlt' : ¬ ((n2 : Int) < (n2 : Int)) := by omega
          have HE := hide (show y5 ++ (f.code.take n2).flatMap insY = fnY f by
            rw [List.take_of_length_le (by rw [HL2.out]; exact Nat.le_refl _), ← HY5.out, ← Hys.out, HP.out, ← HL1.out, ← HL2.out]
            simp [fnY])
          rw [HE.out] at HO hnb
          have HBW := hide (hbW.out.trans (HB.out.mono hbW.out.size))
          have FIN := hide (own_less HO.out hbW.out.size)
          clear hbl hlt
          go_wp2_with fail
          go_ret
          exact ⟨bv, rfl, FIN.out, HBW.out⟩

set_option maxRecDepth 100000 in
set_option maxHeartbeats 2400000 in
theorem dencode_any (w : World) (lo : Nat) (A : Option Addr) (n c : Nat) (hs : List Hd) (F : Pg) (H : Hid (PgAt w lo w.heap.size A n c hs F)) (him : Hid (∀ f ∈ F, ∀ x ∈ f.code, 0 ≤ x.imm ∧ x.imm ≤ 18446744073709551615)) (hT : Hid (Tab w)) (hS : Hid (Shapes w)) :
    Calls Tryd.prog 12 #[gv A n c] w (EnPost F w) := by
  obtain ⟨i0, hi, hz0, hz1, hz2⟩ := info_parts Tryd.info5
  have HLEN := hide H.out.len
  obtain ⟨W, hW⟩ : ∃ W, w.alloc (.cells #[.slice A n c] 28) = W := ⟨_, rfl⟩
  have hbW := hide (show Below w.heap.size w W by rw [← hW]; exact below1 w _)
  have rp := hide (show Row W w.heap.size 28 [.slice A n c] by rw [← hW]; exact Row.new w _ _)
  have HX := hide (show PgAt W lo W.heap.size A n c hs F by rw [← hW]; exact H.out.alloc _)
  have z0 := rp.out.cell (k := 0) rfl
  have HW := hide hW
  have cc := check_any A n c hs F lo W.heap.size W HX (Nat.le_refl _) (hide (hS.out.below hbW.out))
  clear hW
  by_cases hce : pgE F = 0
  · rw [hce] at cc
    have PW := hide (pgW_of hce him.out)
    have hn80 : n ≤ 80 := by rw [← HLEN.out]; exact PW.out.1
    have EE := hide (show encE F = if 1048576 < (pgY F).length + 4 then 3 else 0 by unfold encE; rw [if_neg (by simp [hce]), show (encY F).length = (pgY F).length + 4 from withY_length _])
    have EY := hide (show encE F = 0 → (if encE F = 0 then encY F else []) = pgY F ++ crcI (crcN (pgY F)) from fun h => by rw [if_pos h]; rfl)
    have BF := hide (take_flat_le (f := lenY) (l := F) (m := 60010) (fun f h => lenY_len (PW.out.2 f h)))
    have q11 := lenv_31 (n := n) (by omega)
    clear hce
    go_enter Tryd.func12, Tryd.ntmps12
    go_upto_region 1 with (fail)
    rw [HW.out]
    clear HW
    go_wp2_with fail
    refine cc.mono ?_
    rintro e w1 ⟨rfl, hb1⟩
    have B1 := hide hb1
    have z1 := (rp.out.call hb1).cell (k := 0) rfl
    have rp1 := hide (rp.out.call hb1)
    have kc := Joins.run_convert_bytes_const_at (P := Tryd.prog) w1 22 5 #[.int .u8 83, .int .u8 73, .int .u8 82, .int .u8 49] 4 4 w1.heap.size rfl Tryd.underlying22 Tryd.underlying5
    obtain ⟨wm, hwm⟩ : ∃ wm, w1.alloc (.cells #[.int .u8 83, .int .u8 73, .int .u8 82, .int .u8 49] 5 ((#[.int .u8 83, .int .u8 73, .int .u8 82, .int .u8 49] : Array Value).size, (#[.int .u8 83, .int .u8 73, .int .u8 82, .int .u8 49] : Array Value).size + 1)) = wm := ⟨_, rfl⟩
    rw [hwm] at kc
    have hsm := hide (show Sees wm (w1.heap.size + 1) (some ⟨w1.heap.size, 0, none⟩) (cellsU8 magic) from fun k u hu => ⟨w1.heap.size, 0, rfl, by omega, by
      rw [← hwm, Nat.zero_add, Joins.cell_alloc_mark_at _ _ _ _ _ _ rfl]
      rw [← hu]
      simp [cellsU8, magic]⟩)
    have hwms : w1.heap.size + 1 ≤ wm.heap.size := by rw [← hwm]; simp
    have Bm := hide (show Below W.heap.size W wm by rw [← hwm]; exact B1.out.alloc B1.out.size _)
    have zm : wm.cell? ⟨w.heap.size, 0, none⟩ = some (.slice A n c) := by rw [← hwm, World.cell?_alloc_lt w1 _ _ rp1.out.lt]; exact z1
    have cl := putn_lit w1.heap.size 4 magic (n : Int) (w1.heap.size + 1) wm (hide rfl) hsm hwms (by omega) (by omega) (by omega)
    rw [show (n : Int).toNat = n from Int.toNat_natCast n] at cl
    clear hwm hb1 cc z0 hwms
    go_wp2_with fail
    refine cl.mono ?_
    rintro e w2 ⟨r2, rfl, ho2, hb2⟩
    obtain ⟨y2, hy2⟩ : ∃ y, magic ++ digsI n = y := ⟨_, rfl⟩
    rw [hy2] at ho2
    have R2 := hide (show RowI W r2 y2 w2 from ⟨Bm.out.trans (hb2.mono Bm.out.size), 4 + lenv n, own_less ho2 Bm.out.size⟩)
    have hy2l : y2.length ≤ 20 := by rw [← hy2, List.length_append, digsI_length]; simp [magic]; omega
    have HY2 := hide hy2
    have z2 := (rp.out.call R2.out.1).cell (k := 0) rfl
    clear ho2 hb2 hy2 kc zm z1 cl
    go_wp2_with fail
    clear z2
    go_loopw [5, 7, 8, 23] (fun bv _ _ kv wr => ∃ (i : Nat) (r : Value), i ≤ n ∧ kv = .int .i64 (i : Int) ∧ r = bv ∧ Hid (RowI W r (y2 ++ (F.take i).flatMap lenY) wr)) (fun _ _ _ kv _ => n - (intOf kv).toNat)
    case atStart => exact ⟨0, r2, Nat.zero_le _, rfl, rfl, by simpa using R2⟩
    case round =>
      obtain ⟨i, bv, hin, rfl, rfl, hR⟩ := hrel
      obtain ⟨hB, nb, ho⟩ := hR.out
      have HB := hide hB
      have HXr := hide (HX.out.call hB)
      have u1 := (rp.out.call hB).cell (k := 0) rfl
      have hbl := BF.out i
      have hnb := RowI.len ho
      have HO := hide ho
      have hnb2 : nb ≤ 20 + n * 60010 := by rw [← hnb]; simp only [List.length_append]; rw [HLEN.out] at hbl; omega
      clear hB ho R2
      by_cases hlt : i < n
      · have hlz : (i : Int) < (n : Int) := by omega
        have hiz : (0 : Int) ≤ (i : Int) := by omega
        obtain ⟨b, off, P, A1, n1, c1, A2, n2, c2, f, rfl, hb, hFi, -, HFd, e0, e1, e2⟩ := fn_at HXr.out hlt
        obtain ⟨hiF, hfe⟩ := List.getElem?_eq_some_iff.1 hFi
        have hfw := PW.out.2 f (List.mem_of_getElem? hFi)
        have HTT := hide (show (F.take (i + 1)).flatMap lenY = (F.take i).flatMap lenY ++ (digsI (fnY f).length ++ fnY f) by rw [take_flat hiF, hfe]; rfl)
        have hfl := fnY_len hfw
        obtain ⟨m, hm⟩ : ∃ m, (fnY f).length = m := ⟨_, rfl⟩
        obtain ⟨ds, hds⟩ : ∃ d, fnY f = d := ⟨_, rfl⟩
        obtain ⟨Wx, hWx⟩ : ∃ Wx, wr.alloc (.cells #[.int .i64 P, .slice A1 n1 c1, .slice A2 n2 c2] 53) = Wx := ⟨_, rfl⟩
        have HWx := hide hWx
        obtain ⟨T, hT'⟩ : ∃ T, wr.heap.size = T := ⟨_, rfl⟩
        have HTX := hide hT'
        have RX := hide (show RowI W bv (y2 ++ (F.take i).flatMap lenY) Wx by rw [← hWx]; exact hR.out.alloc _)
        have XX := hide (show Row Wx T 53 [.int .i64 P, .slice A1 n1 c1, .slice A2 n2 c2] by rw [← hWx, ← hT']; exact Row.new wr 53 [.int .i64 P, .slice A1 n1 c1, .slice A2 n2 c2])
        have OX := hide (show Wx.ownsRow W.heap.size 5 1 bv nb (cellsU8 (y2 ++ (F.take i).flatMap lenY)) by rw [← hWx]; exact HO.out.alloc _)
        have HDX := hide (show HdAt Wx lo Wx.heap.size ⟨P, A1, n1, c1, A2, n2, c2⟩ f by rw [← hWx]; exact (HFd.keep (fun p _ hp => World.cell?_alloc_lt wr _ p hp)).more (by simp) (Nat.le_refl _))
        have cd := ddesc_any Wx lo P A1 n1 c1 A2 n2 c2 f HDX (hide hfw) (hide (hT.out.below (hbW.out.trans (RX.out.1.mono hbW.out.size))))
        rw [hm, hds] at cd HTT
        rw [hm] at hfl
        have hdl : ds.length = m := by rw [← hds]; exact hm
        obtain ⟨ys, hys⟩ : ∃ y, y2 ++ (F.take i).flatMap lenY = y := ⟨_, rfl⟩
        rw [hys] at OX hnb RX
        have Hys := hide hys
        have q13 := lenv_31 (n := m) (by omega)
        have d0 := XX.out.cell (k := 0) rfl
        have d1 := XX.out.cell (k := 1) rfl
        have d2 := XX.out.cell (k := 2) rfl
        clear hm hds hys hFi hfe hfw HFd hb hbl hWx hT'
        go_upto_region 8 with (fail)
        rw [HWx.out, HTX.out]
        clear HWx HTX
        go_wp2_with fail
        refine cd.mono ?_
        rintro e w6 ⟨r6, rfl, ho6, hb6⟩
        obtain ⟨A6, c6, rfl, ha6, hc6, -, -⟩ := own_seen ho6
        have O6 := hide ho6
        have R6 := hide (show RowI W bv ys w6 from ⟨RX.out.1.trans (hb6.mono RX.out.1.size), nb, own_below OX.out hb6⟩)
        have O6b := hide (own_below OX.out hb6)
        have cM := putn_any W.heap.size bv nb ys (m : Int) w6 O6b (hide R6.out.1.size) (by omega) (by omega) (by omega)
        rw [show (m : Int).toNat = m from Int.toNat_natCast m] at cM
        have hbb := hide (show ∀ j, bv.ownBlock = some j → j < Wx.heap.size from fun j hj => (OX.out.lt j hj).2)
        clear ho6 hb6 cd u1 e0 e1 e2 d0 d1 d2 RX XX OX HDX
        go_wp2_with fail
        refine cM.mono ?_
        rintro e w7 ⟨r7, rfl, ho7, hg7, hw7⟩
        obtain ⟨y7, hy7⟩ : ∃ y, ys ++ digsI m = y := ⟨_, rfl⟩
        obtain ⟨m7, hm7⟩ : ∃ y, nb + lenv m = y := ⟨_, rfl⟩
        have R7 := hide (R6.out.put ho7 hg7)
        rw [hy7] at R7
        rw [hy7, hm7] at ho7
        have O7 := hide ho7
        have O67 := hide (show w7.ownsRow Wx.heap.size 5 1 (.slice A6 m c6) m (cellsU8 ds) from O6.out.kept hg7 (by
          cases e : Value.ownBlock (.slice A6 m c6) with
          | none => exact .inl rfl
          | some k => exact .inr fun h' => by have h1 := (O6.out.lt k e).1; have h2 := hbb.out k h'.symm; omega))
        have HY7 := hide hy7
        have hm7b : m7 ≤ 20 + n * 60010 + 10 := by omega
        obtain ⟨A7, c7, rfl, -, -, -, -⟩ := own_seen O7.out
        clear ho7 hg7 hw7 hy7 hm7 cM
        go_wp2_with (at_builtin; refine wpList_append_seesN rfl (.tmp 33) (.tmp 34) 22 rfl W.heap.size 5 i0 (.int .u8 0) 1 1 Tryd.underlying22 hi hz0 hz1 hz2 rfl (by decide) _ m7 (cellsU8 y7) rfl O7.out w7.heap.size A6 m c6 (cellsU8 ds) rfl (hide ha6) (hide (by simp [cellsU8]; omega)) (hide (Sees.own O67.out)) (hide hc6) (one_u8 _) (by unfold maxLen; omega) (by omega) R7.out.1.size ?_)
        intro v8 w8 ho8 hg8
        have HN := hide (show RowI W v8 (y2 ++ (F.take (i + 1)).flatMap lenY) w8 from by
          rw [← cellsU8_app] at ho8
          have h1 := R7.out.put ho8 hg8
          rw [HTT.out, ← List.append_assoc, Hys.out, ← List.append_assoc, HY7.out]
          exact h1)
        clear ho8 hg8
        go_wp2_with fail
        go_roundw
        case rel => exact ⟨i + 1, v8, by omega, by go_num, rfl, HN⟩
        case measure => simp [intOf]; omega
      · have hi2 : n = i := by omega
        subst hi2
        have hlt' : ¬ ((n : Int) < (n : Int)) := by omega
        have HE := hide (show y2 ++ (F.take n).flatMap lenY = pgY F by
          rw [List.take_of_length_le (by rw [HLEN.out]; exact Nat.le_refl _), ← HY2.out, ← HLEN.out]
          simp [pgY])
        rw [HE.out] at HO hnb hR
        obtain ⟨Ab, cb, rfl, hab, hcb, -, hsb⟩ := own_seen HO.out
        have HPB := hide (pgY_byt PW.out)
        have ck := dsum_any Ab nb cb (pgY F) wr.heap.size wr (hide hnb) (by omega) (hide hsb) HPB
        clear hbl hlt hsb u1
        go_wp2_with fail
        refine ck.mono ?_
        rintro e w9 ⟨gk, rfl, hgk, hr9, hb9⟩
        have O9 := hide (own_below HO.out hb9)
        have R9 := hide (show RowI W (.slice Ab nb cb) (pgY F) w9 from ⟨hR.out.1.trans (hb9.mono hR.out.1.size), nb, O9.out⟩)
        have K9 := hide (show ∀ j u, (cellsU8 (crcI (crcN (pgY F))))[j]? = some u → w9.cell? ((⟨gk, 0, none⟩ : Addr).add j) = some u from fun j u hu => by
          rw [WideShapes.add_plain, Nat.zero_add]
          exact hr9.cell hu)
        clear hgk hr9 hb9 ck
        go_wp2_with (at_builtin; refine wpList_append_where rfl (.tmp 37) (.tmp 39) 22 rfl W.heap.size 5 i0 (.int .u8 0) 1 1 Tryd.underlying22 hi hz0 hz1 hz2 rfl (by decide) _ nb (cellsU8 (pgY F)) rfl O9.out ⟨gk, 0, none⟩ 4 4 (cellsU8 (crcI (crcN (pgY F)))) rfl rfl K9.out (one_u8 _) (by unfold maxLen; omega) (by omega) R9.out.1.size ?_)
        intro v10 w10 ho10 hg10 _
        rw [← cellsU8_app] at ho10
        have R10 := hide (R9.out.put ho10 hg10)
        have O10 := hide ho10
        have HB10 := hide (hbW.out.trans (R10.out.1.mono hbW.out.size))
        obtain ⟨A10, c10, rfl, -, -, -, -⟩ := own_seen O10.out
        clear ho10 hg10
        by_cases h20 : 1048576 < nb + 4
        · have E3 := hide (show encE F = 3 by rw [EE.out, if_pos (by rw [hnb]; exact h20)])
          have h20z : (1048576 : Int) < (nb : Int) + 4 := by omega
          clear h20
          go_wp2_with fail
          go_ret2
          exact en_nil E3.out (by decide) HB10.out
        · have E3 := hide (show encE F = 0 by rw [EE.out, if_neg (by rw [hnb]; exact h20)])
          have h20z : ¬ ((1048576 : Int) < (nb : Int) + 4) := by omega
          have h20d : decide ((1048576 : Int) < (nb : Int) + 4) = false := decide_eq_false h20z
          have FIN := hide (show EnPost F w (.returned (.tuple #[.slice A10 (nb + 4) c10, .int .i64 0])) w10 from ⟨_, nb + 4, by rw [E3.out], by rw [EY.out E3.out]; exact own_less O10.out hbW.out.size, HB10.out⟩)
          clear h20
          go_wp2_with fail
          go_ret2
          exact FIN.out
  · have hcb : (pgE F == 0) = false := by rw [beq_eq_false_iff_ne]; exact hce
    have E := hide (show encE F = pgE F by unfold encE; rw [if_pos hce])
    obtain ⟨x, hx⟩ : ∃ x, pgE F = x := ⟨_, rfl⟩
    have hxn := hide hce
    rw [hx] at cc hcb E hxn
    clear hx hce
    go_enter Tryd.func12, Tryd.ntmps12
    go_upto_region 1 with (fail)
    rw [HW.out]
    clear HW
    go_wp2_with fail
    refine cc.mono ?_
    rintro e w1 ⟨rfl, hb1⟩
    have HB := hide (hbW.out.trans (hb1.mono hbW.out.size))
    clear hb1 cc z0
    go_wp2_with fail
    go_ret2
    exact en_nil E.out hxn.out HB.out
end Go.Proofs.YtgcjckbndkddmaaDoor
end
