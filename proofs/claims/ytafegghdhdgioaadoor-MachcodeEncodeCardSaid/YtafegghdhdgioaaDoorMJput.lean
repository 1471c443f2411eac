import Derived.Test.YtafegghdhdgioaaDoorMJmath
import Derived.Test.YtafegghdhdgioaaDoorMJkp
import Derived.Test.YtafegghdhdgioaaDoorMBitsm
import Derived.Test.YtafegghdhdgioaaDoorMPmath
import Derived.ArgAppend
import Derived.Deep.RegionLaw
import Derived.Deep.DeepCutAuto
set_option linter.unusedVariables false
set_option linter.unusedSimpArgs false
section
/-
  The closure put of the program's encoded: numbers written behind the bytes of a captured variable. Conditions: those of the types.
-/
namespace Go.Proofs.YtafegghdhdgioaaDoor
open Go.RowKit

/-- A new block is a row of the call's own. -/
theorem own_made {W : World} {base n : Nat} {e : TypeId} {L : List Value} (hl : L.length = n) (hb : base ≤ W.heap.size) (hm : n ≤ 1048576) : (W.alloc (.cells L.toArray e)).ownsRow base e 1 (.slice (some ⟨W.heap.size, 0, none⟩) n n) n L := by
  refine ⟨by omega, .inr ⟨W.heap.size, n, _, rfl, hb, heap_alloc_new W _, Nat.le_refl _, by unfold maxLen; omega, by simp [hl], ?_⟩⟩
  simp only [Nat.mul_one]
  rw [List.take_of_length_le (by omega)]
/-- The cells of a list of words. -/
def wds (l : List Nat) : List Value := l.map fun u : Nat => .int .u64 (u : Int)
theorem wds_at {l : List Nat} {k u : Nat} (h : l[k]? = some u) : (wds l)[k]? = some (.int .u64 (u : Int)) := by unfold wds; rw [List.getElem?_map, h]; rfl
/-- The variable Bx holds the bytes ys, a row of the call's own. -/
structure JW (w : World) (base Bx : Nat) (v : Value) (ys : List Int) : Prop where
  row : Row w Bx 22 [v]
  own : w.ownsRow base 5 1 v ys.length (cellsU8 ys)
  ne : ∀ k, v.ownBlock = some k → k ≠ Bx
theorem JW.lo {w : World} {base Bx : Nat} {v : Value} {ys : List Int} (h : JW w base Bx v ys) : ∀ k, v.ownBlock = some k → base ≤ k ∧ k < w.heap.size := fun k hk => h.own.lt k hk
theorem JW.kept {w w' : World} {base Bx : Nat} {v : Value} {ys : List Int} (h : JW w base Bx v ys) (hb : Below w.heap.size w w') : JW w' base Bx v ys :=
  ⟨h.row.call hb, own_below h.own hb, h.ne⟩
/-- What put leaves. -/
def PuPost (base Bx : Nat) (v : Value) (ys zs : List Int) (w : World) (e : Ending) (w' : World) : Prop :=
  e = .returned (.tuple #[]) ∧ ∃ v', JW w' base Bx v' (ys ++ zs) ∧ JKp w w' Bx v v'

/-- append behind bytes without room. -/
theorem wp_append_full {P : Program} {w : World} {o : Oper} {a : Act} {K : Act → World → Prop} {Q : Exit → Act → World → Prop} (s x : Operand) (t : TypeId)
    (ho : o.op = .call { callee := .builtin .append, args := #[s, x], argTypes := #[t, t] })
    (i : TypeInfo) (ht : P.underlying t = some (.slice 5)) (hi : P.info? 5 = some i) (hz : i.zero = some (.int .u8 0)) (hsize : i.size = 1) (hby : i.bytes = 1)
    (g k : Nat) (zs : List Int) (hs : a.eval s = .slice (some ⟨g, 0, none⟩) k k) (hl : zs.length = k) (hsee : Hid (∀ j u, (cellsU8 zs)[j]? = some u → w.cell? ⟨g, j, none⟩ = some u)) (hk : k ≤ 100)
    (ad : Addr) (m c : Nat) (bs : List Int) (hx : a.eval x = .slice (some ad) m c) (hlb : (cellsU8 bs).length = m * 1) (hm : 1 ≤ m ∧ m ≤ 100) (hc : ∀ j u, (cellsU8 bs)[j]? = some u → w.cell? (ad.add j) = some u)
    (h : ∀ v' w', w'.ownsRow w.heap.size 5 1 v' (k + m) (cellsU8 zs ++ cellsU8 bs) → w.grownBy w' none → K (a.put o.dst v') w') : o.wp P a w K Q := by
  obtain ⟨v', w', hrun, r1, r2⟩ := run_append_arg_grows (P := P) w t o.type 5 i (.int .u8 0) 1 1 ht hi hz hsize hby rfl (by decide) ⟨g, 0, none⟩ k k (cellsU8 zs) (by simp [cellsU8, hl]) (fun j u hj => by
    rw [WideShapes.add_plain, Nat.zero_add]
    exact hsee.out j u hj) ad m c (cellsU8 bs) hlb hc (by omega) (by unfold maxLen; omega) (by omega)
  unfold Oper.wp
  simp [execOp, ho, resolve, invoke, builtin, hs, hx, hrun, Result.andThen]
  exact h v' w' r1 r2

set_option maxRecDepth 100000 in
set_option maxHeartbeats 2000000 in
theorem jput_any (base Bx : Nat) (v : Value) (ys : List Int) (A : Option Addr) (n c B : Nat) (us : List Nat) (w : World) (H : Hid (JW w base Bx v ys)) (hb : base ≤ w.heap.size)
    (hn : Hid (us.length = n)) (hs : Hid (Sees w B A (wds us))) (hB : B ≤ w.heap.size) (hBx : Hid (∀ b off : Nat, A = some ⟨b, off, none⟩ → b ≠ Bx ∧ v.ownBlock ≠ some b)) (hu : Hid (∀ u ∈ us, u ≤ 18446744073709551615)) (hm : n ≤ 1000) (hy : ys.length ≤ 1073741824) :
    Calls Tryd.prog 62 #[.slice A n c, .pointer (some ⟨Bx, 0, none⟩)] w (PuPost base Bx v ys (us.flatMap digsI) w) := by
  obtain ⟨i0, hi, hz0, hz1, hz2⟩ := info_parts Tryd.info5
  go_enter Tryd.func62, Tryd.ntmps62
  go_wp2_with fail
  go_loopw [4, 7] (fun _ iv wr => ∃ (i : Nat) (r : Value), i ≤ n ∧ iv = .int .i64 (i : Int) ∧ Hid (JW wr base Bx r (ys ++ (us.take i).flatMap digsI)) ∧ Hid (JKp w wr Bx v r)) (fun _ iv _ => n - (intOf iv).toNat)
  case atStart => exact ⟨0, v, Nat.zero_le _, rfl, by rw [List.take_zero]; simpa using H, hide (JKp.refl _ _ _)⟩
  case round =>
    obtain ⟨i, r, hin, rfl, HW, HK⟩ := hrel
    by_cases hlt : i < n
    · have hlz : (i : Int) < (n : Int) := by omega
      have hiz : (0 : Int) ≤ (i : Int) := by omega
      have hul : i < us.length := by rw [hn.out]; exact hlt
      obtain ⟨u, hui⟩ : ∃ u, us[i]? = some u := ⟨_, List.getElem?_eq_getElem hul⟩
      have hu64 := hu.out u (List.mem_of_getElem? hui)
      obtain ⟨b, off, hAe, hbB, hcell⟩ := hs.out i _ (wds_at hui)
      subst hAe
      have hbx := hBx.out b off rfl
      have hb0 : wr.cell? ⟨b, off + i, none⟩ = some (.int .u64 (u : Int)) := by
        rw [World.cell?_of_block (HK.out.blk b (by omega) hbx.1 hbx.2)]; exact hcell
      have hNX := hide (show ys ++ (us.take (i + 1)).flatMap digsI = (ys ++ (us.take i).flatMap digsI) ++ digsI u by rw [List.take_add_one, hui]; simp)
      obtain ⟨zs, hzs⟩ : ∃ zs, ys ++ (us.take i).flatMap digsI = zs := ⟨_, rfl⟩
      have hzl : zs.length ≤ 1073741824 + 10000 := by
        rw [← hzs, List.length_append]
        have h1 := flat_le (f := digsI) (m := 10) (us.take i) (fun a ha => by rw [digsI_length]; exact lenv_le _ (by have := hu.out a (List.mem_of_mem_take ha); omega))
        have h2 : (us.take i).length ≤ 1000 := by rw [List.length_take]; omega
        have := Nat.mul_le_mul_right 10 h2
        omega
      rw [hzs] at HW hNX
      have cp := put_any none 0 0 [] (u : Int) 0 wr.drew (hide rfl) (by omega) (Sees.nil_ _ _ _) (hide (Nat.zero_le _)) (by omega) (by omega)
      rw [Nat.zero_add, List.nil_append, show ((u : Int)).toNat = u by omega] at cp
      have hl10 := lenv_le u (by omega)
      have hlp := lenv_pos u
      have y0 := HW.out.row.cell (k := 0) rfl
      clear hzs hcell
      go_upto_region 3 with (fail)
      go_region_law
        (first
          | (go_simp; go_at_call 63; refine cp.mono ?_; rintro e w1 ⟨r1, rfl, ho1, hb1⟩; obtain ⟨g1, c1, rfl, hg1, hg2, -, -⟩ := own_block ho1 (by omega); have W1 := HW.out.kept (show Below wr.heap.size wr w1 from (Below.refl wr.heap.size wr).drew.trans hb1); have y1 := W1.row.cell (k := 0) rfl; have hl1 : (cellsU8 (digsI u)).length = lenv u * 1 := ho1.1)
          | (refine wp_append_where (.tmp 11) (.tmp 13) 22 rfl base 5 i0 (.int .u8 0) 1 1 Tryd.underlying22 hi hz0 hz1 hz2 rfl (by decide) r zs.length (cellsU8 zs) rfl W1.own ⟨g1, 0, none⟩ (lenv u) c1 (cellsU8 (digsI u)) rfl hl1 (ho1.cells rfl) (one_u8 _) (by unfold maxLen; omega) (by omega) (Nat.le_trans hb (Nat.le_trans HK.out.size hb1.size)) ?_; intro v' w2 ho2 hg2' hwh; obtain ⟨A9, c9, rfl, -, -, -, -⟩ := own_seen ho2; have r2 := W1.row.grown hg2' (fun e => W1.ne _ e.symm rfl); have y2 := r2.cell (k := 0) rfl; have f2 := r2.free 0))
      all_goals
        have hB1 : Below wr.heap.size wr w1 := (Below.refl wr.heap.size wr).drew.trans hb1
        have hne2 : ∀ k, (Value.slice A9 (zs.length + lenv u) c9).ownBlock = some k → k ≠ Bx := fun k hk => by
          rcases hwh k hk with e | e
          · exact HW.out.ne k e
          · have := HW.out.row.lt; have := hB1.size; omega
        have ho3 : w2.ownsRow base 5 1 (.slice A9 (zs.length + lenv u) c9) (zs ++ digsI u).length (cellsU8 (zs ++ digsI u)) := by
          rw [List.length_append, digsI_length, cellsU8_app]; exact ho2
        have HN := hide (show JW (w2.setCell ⟨Bx, 0, none⟩ (.slice A9 (zs.length + lenv u) c9)) base Bx (.slice A9 (zs.length + lenv u) c9) (zs ++ digsI u) from ⟨r2.set_ 0 _, ho3.kept (grown_put w2 Bx 0 _) (by
          rcases e : (Value.slice A9 (zs.length + lenv u) c9).ownBlock with _ | q
          · exact .inl rfl
          · exact .inr (fun h => hne2 q e (by injection h))), hne2⟩)
        have HK2 := hide (HK.out.trans ((JKp.of_below hB1 Bx r).trans ((JKp.of_row hg2' (fun k hk => (hwh k hk).imp id (fun e => by omega)) Bx).trans (JKp.set w2 Bx 0 _ (.slice A9 (zs.length + lenv u) c9)))))
        rw [← hNX.out] at HN
        obtain ⟨wn, hwn⟩ : ∃ V, w2.setCell ⟨Bx, 0, none⟩ (.slice A9 (zs.length + lenv u) c9) = V := ⟨_, rfl⟩
        obtain ⟨rn, hrn⟩ : ∃ V, Value.slice A9 (zs.length + lenv u) c9 = V := ⟨_, rfl⟩
        rw [hwn] at HN HK2
        rw [hrn] at HN HK2
        have HWN := hide hwn
        clear ho1 hb1 W1 y1 hl1 ho2 hg2' hwh r2 y2 f2 hB1 hne2 ho3 hwn cp y0 HW HK hb0 hrn
        go_wp2_with fail
        rw [HWN.out]
        go_roundw
        case rel => exact ⟨i + 1, rn, by omega, by go_num, HN, HK2⟩
        case measure => simp [intOf]; omega
    · obtain rfl : i = n := by omega
      have hlz : ¬ ((i : Int) < (i : Int)) := by omega
      have FIN := hide (show PuPost base Bx v ys (us.flatMap digsI) w (.returned (.tuple #[])) wr from ⟨rfl, r, by
        have h := HW.out
        rwa [List.take_of_length_le (by rw [hn.out]; omega)] at h, HK.out⟩)
      clear hlt
      go_wp2_with fail
      go_end0
      exact FIN.out
set_option maxRecDepth 100000 in
set_option maxHeartbeats 2000000 in
theorem jput_lit (base Bx L : Nat) (ys : List Int) (A : Option Addr) (n c B : Nat) (us : List Nat) (w : World) (H : Hid (Row w Bx 22 [.slice (some ⟨L, 0, none⟩) ys.length ys.length])) (HC : Hid (∀ j u, (cellsU8 ys)[j]? = some u → w.cell? ⟨L, j, none⟩ = some u)) (hLB : L ≠ Bx) (hLl : base ≤ L ∧ L < w.heap.size) (hb : base ≤ w.heap.size) (hy4 : ys.length ≤ 100) (hn1 : 1 ≤ n)
    (hn : Hid (us.length = n)) (hs : Hid (Sees w B A (wds us))) (hB : B ≤ w.heap.size) (hBx : Hid (∀ b off : Nat, A = some ⟨b, off, none⟩ → b ≠ Bx ∧ b ≠ L)) (hu : Hid (∀ u ∈ us, u ≤ 18446744073709551615)) (hm : n ≤ 1000) :
    Calls Tryd.prog 62 #[.slice A n c, .pointer (some ⟨Bx, 0, none⟩)] w (PuPost base Bx (.slice (some ⟨L, 0, none⟩) ys.length ys.length) ys (us.flatMap digsI) w) := by
  obtain ⟨i0, hi, hz0, hz1, hz2⟩ := info_parts Tryd.info5
  go_enter Tryd.func62, Tryd.ntmps62
  go_wp2_with fail
  have VB : ∀ b, b ≠ L → (Value.slice (some ⟨L, 0, none⟩) ys.length ys.length).ownBlock ≠ some b := fun b hb e => hb (by simp [Value.ownBlock] at e; exact e.symm)
  obtain ⟨v, hv⟩ : ∃ v, Value.slice (some ⟨L, 0, none⟩) ys.length ys.length = v := ⟨_, rfl⟩
  have HV := hide hv
  rw [hv] at H VB
  rw [hv]
  clear hv
  go_loopw [4, 7] (fun _ iv wr => ∃ i : Nat, i ≤ n ∧ iv = .int .i64 (i : Int) ∧ ((i = 0 ∧ wr = w) ∨ (1 ≤ i ∧ ∃ r, Hid (JW wr base Bx r (ys ++ (us.take i).flatMap digsI)) ∧ Hid (JKp w wr Bx v r)))) (fun _ iv _ => n - (intOf iv).toNat)
  case atStart => exact ⟨0, Nat.zero_le _, rfl, .inl ⟨rfl, rfl⟩⟩
  case round =>
    obtain ⟨i, hin, rfl, hrel2⟩ := hrel
    by_cases hlt : i < n
    · rcases hrel2 with ⟨rfl, rfl⟩ | ⟨hi1, r, HW, HK⟩
      · have hlz : (0 : Int) < (n : Int) := by omega
        have hul : 0 < us.length := by rw [hn.out]; exact hlt
        obtain ⟨u, hui⟩ : ∃ u, us[0]? = some u := ⟨_, List.getElem?_eq_getElem hul⟩
        have hu64 := hu.out u (List.mem_of_getElem? hui)
        obtain ⟨b, off, hAe, hbB, hb0⟩ := hs.out 0 _ (wds_at hui)
        subst hAe
        have hNX := hide (show ys ++ (us.take (0 + 1)).flatMap digsI = ys ++ digsI u by rw [List.take_add_one, hui]; simp)
        have cp := put_any none 0 0 [] (u : Int) 0 wr.drew (hide rfl) (by omega) (Sees.nil_ _ _ _) (hide (Nat.zero_le _)) (by omega) (by omega)
        rw [Nat.zero_add, List.nil_append, show ((u : Int)).toNat = u by omega] at cp
        have hl10 := lenv_le u (by omega)
        have hlp := lenv_pos u
        have y0 := H.out.cell (k := 0) rfl
        rw [Nat.add_zero] at hb0
        have E00 := hide (show ((0 : Nat) : Int) = 0 from rfl)
        rw [E00.out]
        go_upto_region 3 with (fail)
        go_region_law
          (first
            | (go_simp; go_at_call 63; refine cp.mono ?_; rintro e w1 ⟨r1, rfl, ho1, hb1⟩; obtain ⟨g1, c1, rfl, hg1, hg2, -, -⟩ := own_block ho1 (by omega); have hB1 : Below wr.heap.size wr w1 := (Below.refl wr.heap.size wr).drew.trans hb1; have W1 := H.out.call hB1; have y1 := W1.cell (k := 0) rfl; have hl1 : (cellsU8 (digsI u)).length = lenv u * 1 := ho1.1; have HC1 := hide (show ∀ j q, (cellsU8 ys)[j]? = some q → w1.cell? ⟨L, j, none⟩ = some q from fun j q hj => (hB1.cell (show (⟨L, j, none⟩ : Addr).block < wr.heap.size from hLl.2)).trans (HC.out j q hj)))
            | (refine wp_append_full (.tmp 11) (.tmp 13) 22 rfl i0 Tryd.underlying22 hi hz0 hz1 hz2 L ys.length ys HV.out.symm rfl HC1 hy4 ⟨g1, 0, none⟩ (lenv u) c1 (digsI u) rfl hl1 ⟨hlp, by omega⟩ (ho1.cells rfl) ?_; intro v' w2 ho2 hg2'; obtain ⟨A9, c9, rfl, -, -, -, -⟩ := own_seen ho2; have r2 := W1.grown hg2' (fun e => by cases e); have y2 := r2.cell (k := 0) rfl; have f2 := r2.free 0))
        all_goals
          have hne2 : ∀ k, (Value.slice A9 (ys.length + lenv u) c9).ownBlock = some k → w1.heap.size ≤ k := fun k hk => (ho2.lt k hk).1
          have ho3 : w2.ownsRow base 5 1 (.slice A9 (ys.length + lenv u) c9) (ys ++ digsI u).length (cellsU8 (ys ++ digsI u)) := by
            rw [List.length_append, digsI_length, cellsU8_app]
            exact own_less ho2 (by have := hB1.size; omega)
          have hne3 : ∀ k, (Value.slice A9 (ys.length + lenv u) c9).ownBlock = some k → k ≠ Bx := fun k hk => by have := hne2 k hk; have := H.out.lt; have := hB1.size; omega
          have HN := hide (show JW (w2.setCell ⟨Bx, 0, none⟩ (.slice A9 (ys.length + lenv u) c9)) base Bx (.slice A9 (ys.length + lenv u) c9) (ys ++ digsI u) from ⟨r2.set_ 0 _, ho3.kept (grown_put w2 Bx 0 _) (by
            rcases e : (Value.slice A9 (ys.length + lenv u) c9).ownBlock with _ | q
            · exact .inl rfl
            · exact .inr (fun h => hne3 q e (by injection h))), hne3⟩)
          have HK2 := hide (show JKp wr (w2.setCell ⟨Bx, 0, none⟩ (.slice A9 (ys.length + lenv u) c9)) Bx v (.slice A9 (ys.length + lenv u) c9) from (JKp.of_below hB1 Bx v).trans ((⟨hg2'.os, hg2'.tape, hg2'.output, hg2'.size, fun k hk _ _ => hg2'.block k hk (fun e => by cases e), fun k hk => .inr (hne2 k hk)⟩ : JKp w1 w2 Bx v (.slice A9 (ys.length + lenv u) c9)).trans (JKp.set w2 Bx 0 _ (.slice A9 (ys.length + lenv u) c9))))
          rw [← hNX.out] at HN
          obtain ⟨wn, hwn⟩ : ∃ V, w2.setCell ⟨Bx, 0, none⟩ (.slice A9 (ys.length + lenv u) c9) = V := ⟨_, rfl⟩
          obtain ⟨rn, hrn⟩ : ∃ V, Value.slice A9 (ys.length + lenv u) c9 = V := ⟨_, rfl⟩
          rw [hwn] at HN HK2
          rw [hrn] at HN HK2
          have HWN := hide hwn
          clear ho1 hb1 W1 y1 hl1 ho2 hg2' r2 y2 f2 hB1 hne2 hne3 ho3 hwn cp y0 hb0 hrn HC1
          go_wp2_with fail
          rw [HWN.out]
          go_roundw
          case rel => exact ⟨0 + 1, by omega, by go_num, .inr ⟨by omega, rn, HN, HK2⟩⟩
          case measure => simp [intOf]; omega
      · have hlz : (i : Int) < (n : Int) := by omega
        have hiz : (0 : Int) ≤ (i : Int) := by omega
        have hul : i < us.length := by rw [hn.out]; exact hlt
        obtain ⟨u, hui⟩ : ∃ u, us[i]? = some u := ⟨_, List.getElem?_eq_getElem hul⟩
        have hu64 := hu.out u (List.mem_of_getElem? hui)
        obtain ⟨b, off, hAe, hbB, hcell⟩ := hs.out i _ (wds_at hui)
        subst hAe
        have hbx := (hBx.out b off rfl)
        have hb0 : wr.cell? ⟨b, off + i, none⟩ = some (.int .u64 (u : Int)) := by
          rw [World.cell?_of_block (HK.out.blk b (by omega) hbx.1 (VB b hbx.2))]; exact hcell
        have hNX := hide (show ys ++ (us.take (i + 1)).flatMap digsI = (ys ++ (us.take i).flatMap digsI) ++ digsI u by rw [List.take_add_one, hui]; simp)
        obtain ⟨zs, hzs⟩ : ∃ zs, ys ++ (us.take i).flatMap digsI = zs := ⟨_, rfl⟩
        have hzl : zs.length ≤ 1073741824 + 10000 := by
          rw [← hzs, List.length_append]
          have h1 := flat_le (f := digsI) (m := 10) (us.take i) (fun a ha => by rw [digsI_length]; exact lenv_le _ (by have := hu.out a (List.mem_of_mem_take ha); omega))
          have h2 : (us.take i).length ≤ 1000 := by rw [List.length_take]; omega
          have := Nat.mul_le_mul_right 10 h2
          omega
        rw [hzs] at HW hNX
        have cp := put_any none 0 0 [] (u : Int) 0 wr.drew (hide rfl) (by omega) (Sees.nil_ _ _ _) (hide (Nat.zero_le _)) (by omega) (by omega)
        rw [Nat.zero_add, List.nil_append, show ((u : Int)).toNat = u by omega] at cp
        have hl10 := lenv_le u (by omega)
        have hlp := lenv_pos u
        have y0 := HW.out.row.cell (k := 0) rfl
        clear hzs hcell
        go_upto_region 3 with (fail)
        go_region_law
          (first
            | (go_simp; go_at_call 63; refine cp.mono ?_; rintro e w1 ⟨r1, rfl, ho1, hb1⟩; obtain ⟨g1, c1, rfl, hg1, hg2, -, -⟩ := own_block ho1 (by omega); have W1 := HW.out.kept (show Below wr.heap.size wr w1 from (Below.refl wr.heap.size wr).drew.trans hb1); have y1 := W1.row.cell (k := 0) rfl; have hl1 : (cellsU8 (digsI u)).length = lenv u * 1 := ho1.1)
            | (refine wp_append_where (.tmp 11) (.tmp 13) 22 rfl base 5 i0 (.int .u8 0) 1 1 Tryd.underlying22 hi hz0 hz1 hz2 rfl (by decide) r zs.length (cellsU8 zs) rfl W1.own ⟨g1, 0, none⟩ (lenv u) c1 (cellsU8 (digsI u)) rfl hl1 (ho1.cells rfl) (one_u8 _) (by unfold maxLen; omega) (by omega) (Nat.le_trans hb (Nat.le_trans HK.out.size hb1.size)) ?_; intro v' w2 ho2 hg2' hwh; obtain ⟨A9, c9, rfl, -, -, -, -⟩ := own_seen ho2; have r2 := W1.row.grown hg2' (fun e => W1.ne _ e.symm rfl); have y2 := r2.cell (k := 0) rfl; have f2 := r2.free 0))
        all_goals
          have hB1 : Below wr.heap.size wr w1 := (Below.refl wr.heap.size wr).drew.trans hb1
          have hne2 : ∀ k, (Value.slice A9 (zs.length + lenv u) c9).ownBlock = some k → k ≠ Bx := fun k hk => by
            rcases hwh k hk with e | e
            · exact HW.out.ne k e
            · have := HW.out.row.lt; have := hB1.size; omega
          have ho3 : w2.ownsRow base 5 1 (.slice A9 (zs.length + lenv u) c9) (zs ++ digsI u).length (cellsU8 (zs ++ digsI u)) := by
            rw [List.length_append, digsI_length, cellsU8_app]; exact ho2
          have HN := hide (show JW (w2.setCell ⟨Bx, 0, none⟩ (.slice A9 (zs.length + lenv u) c9)) base Bx (.slice A9 (zs.length + lenv u) c9) (zs ++ digsI u) from ⟨r2.set_ 0 _, ho3.kept (grown_put w2 Bx 0 _) (by
            rcases e : (Value.slice A9 (zs.length + lenv u) c9).ownBlock with _ | q
            · exact .inl rfl
            · exact .inr (fun h => hne2 q e (by injection h))), hne2⟩)
          have HK2 := hide (HK.out.trans ((JKp.of_below hB1 Bx r).trans ((JKp.of_row hg2' (fun k hk => (hwh k hk).imp id (fun e => by omega)) Bx).trans (JKp.set w2 Bx 0 _ (.slice A9 (zs.length + lenv u) c9)))))
          rw [← hNX.out] at HN
          obtain ⟨wn, hwn⟩ : ∃ V, w2.setCell ⟨Bx, 0, none⟩ (.slice A9 (zs.length + lenv u) c9) = V := ⟨_, rfl⟩
          obtain ⟨rn, hrn⟩ : ∃ V, Value.slice A9 (zs.length + lenv u) c9 = V := ⟨_, rfl⟩
          rw [hwn] at HN HK2
          rw [hrn] at HN HK2
          have HWN := hide hwn
          clear ho1 hb1 W1 y1 hl1 ho2 hg2' hwh r2 y2 f2 hB1 hne2 ho3 hwn cp y0 HW HK hb0 hrn
          go_wp2_with fail
          rw [HWN.out]
          go_roundw
          case rel => exact ⟨i + 1, by omega, by go_num, .inr ⟨by omega, rn, HN, HK2⟩⟩
          case measure => simp [intOf]; omega
    · obtain rfl : i = n := by omega
      have hlz : ¬ ((i : Int) < (i : Int)) := by omega
      rcases hrel2 with ⟨h0, _⟩ | ⟨hi1, r, HW, HK⟩
      · omega
      have FIN := hide (show PuPost base Bx v ys (us.flatMap digsI) w (.returned (.tuple #[])) wr from ⟨rfl, r, by
        have h := HW.out
        rwa [List.take_of_length_le (by rw [hn.out]; omega)] at h, HK.out⟩)
      clear hlt
      go_wp2_with fail
      go_end0
      exact FIN.out
end Go.Proofs.YtafegghdhdgioaaDoor
end
