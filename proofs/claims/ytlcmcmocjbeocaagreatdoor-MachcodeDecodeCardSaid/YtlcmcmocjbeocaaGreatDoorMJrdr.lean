import Derived.Test.YtlcmcmocjbeocaaGreatDoorMJmath
import Derived.Test.YtlcmcmocjbeocaaGreatDoorMBitsm
import Derived.Test.YtlcmcmocjbeocaaGreatDoorMRct
import Derived.Test.YtlcmcmocjbeocaaGreatDoorMJrdm
import Derived.RegionTactic
import Derived.Outline
import Derived.Deep.DeepCutAuto
set_option linter.unusedVariables false
set_option linter.unusedSimpArgs false
section
/-
  The program's reader of a target's bytes (package machcode): block g is a reader; the contracts of word, number, limited, op. Conditions: at most 2^20 bytes.
-/
namespace Go.Proofs.YtlcmcmocjbeocaaGreatDoor
open Go.RowKit

/-- Block g is a reader of the bytes l, which lie below it. -/
structure JRd (w : World) (g b off n c : Nat) (l : List Int) : Prop where
  row : Row w g 136 [.slice (some ⟨b, off, none⟩) n c]
  len : l.length = n
  nc : n ≤ c
  cm : c ≤ 9223372036854775807
  most : n ≤ 1048576
  byt : Byt l
  see : Sees w g (some ⟨b, off, none⟩) (cellsU8 l)
def JR (w : World) (g : Nat) (l : List Int) : Prop := ∃ b off n c, JRd w g b off n c l
/-- The reader has turned to l, the call returned v; all else is as it was. -/
def JPost (g : Nat) (l : List Int) (v : Value) (w : World) (e : Ending) (w' : World) : Prop := e = .returned v ∧ JR w' g l ∧ w.grownBy w' (some g)

section
variable {w w' : World} {g : Nat} {l : List Int}
theorem JR.lt (h : JR w g l) : g < w.heap.size := by
  obtain ⟨b, off, n, c, h⟩ := h
  exact h.row.lt
theorem JR.byt (h : JR w g l) : Byt l := by
  obtain ⟨b, off, n, c, h⟩ := h
  exact h.byt
theorem JR.kept {row : Option Nat} (h : JR w g l) (hg : w.grownBy w' row) (hr : ∀ k, row = some k → g < k) : JR w' g l := by
  have hl := h.lt
  obtain ⟨b, off, n, c, h⟩ := h
  refine ⟨b, off, n, c, h.row.grown hg (fun e => ?_), h.len, h.nc, h.cm, h.most, h.byt, h.see.keep fun p hp => ?_⟩
  · have := hr g e.symm
    omega
  · exact World.cell?_of_block (hg.block p.block (by omega) (fun e => by have := hr p.block e.symm; omega))
theorem JR.below (h : JR w g l) (hb : Below w.heap.size w w') : JR w' g l := h.kept (grown_below hb none) (fun k e => by cases e)
theorem JR.alloc (h : JR w g l) (o : Obj) : JR (w.alloc o) g l := h.below (below1 w o)
theorem JR.drewN (h : JR w g l) (m : Nat) : JR (w.drewN m) g l := by
  obtain ⟨b, off, n, c, h⟩ := h
  exact ⟨b, off, n, c, h.row.drewN m, h.len, h.nc, h.cm, h.most, h.byt, h.see.draws m⟩
end
/-- The reader's bytes turned: the first j are gone. -/
theorem JRd.drop_ {w : World} {g b off n c : Nat} {l : List Int} (h : JRd w g b off n c l) {j : Nat} (hj : j ≤ n) : JRd (w.setCell ⟨g, 0, none⟩ (.slice (some ⟨b, off + j, none⟩) (n - j) (c - j))) g b (off + j) (n - j) (c - j) (l.drop j) := by
  have hs := (h.see.drop j).keep (w' := w.setCell ⟨g, 0, none⟩ (.slice (some ⟨b, off + j, none⟩) (n - j) (c - j))) fun p hp => World.cell?_setCell_other _ _ _ _ (fun e => by subst e; simp at hp)
  rw [show (cellsU8 l).drop j = cellsU8 (l.drop j) by simp [cellsU8], show (some (⟨b, off, none⟩ : Addr)).map (·.add j) = some ⟨b, off + j, none⟩ by simp [WideShapes.add_plain]] at hs
  exact ⟨h.row.set_ 0 _, by rw [List.length_drop, h.len], by have := h.nc; omega, by have := h.cm; omega, by have := h.most; omega, h.byt.drop j, hs⟩
/-- All bytes are gone. -/
theorem JRd.end_ {w : World} {g b off n c : Nat} {l : List Int} (h : JRd w g b off n c l) (o' c' : Nat) (hc : c' ≤ 9223372036854775807) {j : Nat} (hj : j = n) : JRd (w.setCell ⟨g, 0, none⟩ (.slice (some ⟨b, o', none⟩) 0 c')) g b o' 0 c' (l.drop j) := by
  have e : l.drop j = [] := List.drop_eq_nil_of_le (by rw [h.len]; omega)
  rw [e]
  exact ⟨h.row.set_ 0 _, rfl, Nat.zero_le _, hc, Nat.zero_le _, Byt.nil_, Sees.nil_ _ _ _⟩
theorem JR.keep0 {w : World} {g b off n c : Nat} {l : List Int} (h : JRd w g b off n c l) : JRd (w.setCell ⟨g, 0, none⟩ (.slice (some ⟨b, off, none⟩) n c)) g b off n c l := by
  have := h.drop_ (j := 0) (Nat.zero_le _)
  simpa using this

set_option maxRecDepth 100000 in
set_option maxHeartbeats 800000 in
theorem jword_any (g : Nat) (l : List Int) (w : World) (h : Hid (JR w g l)) :
    Calls Tryz.prog 111 #[.pointer (some ⟨g, 0, none⟩)] w (JPost g (wordL l).2 (.int .u64 ((wordL l).1 : Int)) w) := by
  obtain ⟨b, off, n, c, h⟩ := h.out
  have H := hide h
  have c0 := h.row.cell (k := 0) rfl
  have z0 := h.row.free 0
  have hlen := h.len
  have hmost := h.most
  have hcm := h.cm
  have hnc := h.nc
  have cu := uint_in (some ⟨b, off, none⟩) n c l 0 g w (hide (fun e => by cases e)) (hide hlen) (by omega) hnc h.see (hide h.byt) (Nat.zero_le _)
  have E0 := hide (show ((0 : Nat) : Int) = 0 from rfl)
  rw [E0.out] at cu
  rcases hm : wordR l with x | ⟨v, r1⟩
  · obtain ⟨m, rfl, hm0, hm2, hsc⟩ := wordR_scan_no hm
    have hU := uintAt_err (zs := l) (a := 0) (e := m) (Nat.zero_le _) hsc hm0
    rw [E0.out] at hU
    have cv : Calls Tryz.prog 148 #[.slice (some ⟨b, off, none⟩) n c, .int .i64 0] w (fun e w'' => e = .returned (.tuple #[.int .u64 0, .int .i64 0, .int .i64 (m : Int)]) ∧ w = w'') := cu.mono fun e w'' he => ⟨by rw [he.1, hU]; rfl, he.2⟩
    have EE := hide (show wordL l = (0, l) by unfold wordL; rw [hm])
    rw [EE.out]
    clear hU cu hsc hm h
    by_cases hc0 : c = 0
    · have hn0 : n = 0 := by omega
      subst hc0 hn0
      go_enter Tryz.func111, Tryz.ntmps111
      go_wp2_with fail
      refine cv.mono ?_
      rintro e0 w' ⟨rfl, rfl⟩
      go_wp2
      go_ret
      exact ⟨rfl, ⟨_, _, _, _, JR.keep0 H.out⟩, grown_set (World.grownBy.refl w _) 0 _⟩
    · go_enter Tryz.func111, Tryz.ntmps111
      go_wp2_with fail
      refine cv.mono ?_
      rintro e0 w' ⟨rfl, rfl⟩
      go_wp2
      go_ret
      exact ⟨rfl, ⟨_, _, _, _, JR.keep0 H.out⟩, grown_set (World.grownBy.refl w _) 0 _⟩
  · obtain ⟨j, hsc, hrj⟩ := wordR_scan hm
    have hU := uintAt_ok (zs := l) (a := 0) (v := v) (e := j) (Nat.zero_le _) hsc
    have hle : v ≤ 18446744073709551615 := (wordR_ok h.byt hm).2
    have hjl : j ≤ n := by
      obtain ⟨u, _, he, _, hl2, _⟩ := scan_ok l 0 0 v j h.byt hsc
      omega
    have hj1 : 1 ≤ j := by
      obtain ⟨u, _, he, _, hl2, _⟩ := scan_ok l 0 0 v j h.byt hsc
      have := lenv_pos u
      omega
    have cv : Calls Tryz.prog 148 #[.slice (some ⟨b, off, none⟩) n c, .int .i64 0] w (fun e w'' => e = .returned (.tuple #[.int .u64 (v : Int), .int .i64 (j : Int), .int .i64 0]) ∧ w = w'') := cu.mono fun e w'' he => ⟨by rw [he.1]; rw [E0.out, Int.zero_add] at hU; rw [hU]; rfl, he.2⟩
    have EE := hide (show wordL l = (v, l.drop j) by unfold wordL; rw [hm, hrj])
    rw [EE.out]
    clear hU cu hsc hm h hrj
    by_cases hcj : c = j
    · have hnj : j = n := by omega
      subst hcj hnj
      go_enter Tryz.func111, Tryz.ntmps111
      go_wp2_with fail
      refine cv.mono ?_
      rintro e0 w' ⟨rfl, rfl⟩
      go_wp2
      go_ret
      exact ⟨rfl, ⟨_, _, _, _, H.out.end_ _ _ (by omega) rfl⟩, grown_set (World.grownBy.refl w _) 0 _⟩
    · go_enter Tryz.func111, Tryz.ntmps111
      go_wp2_with fail
      refine cv.mono ?_
      rintro e0 w' ⟨rfl, rfl⟩
      go_wp2
      go_ret
      exact ⟨rfl, ⟨_, _, _, _, H.out.drop_ hjl⟩, grown_set (World.grownBy.refl w _) 0 _⟩
theorem wordL_le {l : List Int} (h : Byt l) : (wordL l).1 ≤ 18446744073709551615 := by
  unfold wordL
  rcases hm : wordR l with x | ⟨v, r⟩
  · exact Nat.zero_le _
  · exact (wordR_ok h hm).2

set_option maxHeartbeats 400000 in
theorem jnum_any (g : Nat) (l : List Int) (w : World) (h : Hid (JR w g l)) :
    Calls Tryz.prog 77 #[.pointer (some ⟨g, 0, none⟩)] w (JPost g (numL l).2 (.int .i64 (numL l).1) w) := by
  have hv := wordL_le h.out.byt
  have cw := jword_any g l w h
  have E := hide (show numL l = (wrap64 ((wordL l).1 : Int), (wordL l).2) from rfl)
  rw [E.out]
  obtain ⟨v, hv'⟩ : ∃ v, (wordL l).1 = v := ⟨_, rfl⟩
  rw [hv'] at cw hv ⊢
  clear hv' E
  go_enter Tryz.func77, Tryz.ntmps77
  go_wp2_with fail
  refine cw.mono ?_
  rintro e w' ⟨rfl, hR, hG⟩
  have HR := hide hR
  have HG := hide hG
  clear hR hG cw
  go_wp2
  go_ret
  exact ⟨rfl, HR.out, HG.out⟩
set_option maxHeartbeats 400000 in
theorem jlim_any (g most : Nat) (l : List Int) (w : World) (h : Hid (JR w g l)) (hm : most ≤ 2147483647) :
    Calls Tryz.prog 76 #[.pointer (some ⟨g, 0, none⟩), .int .i64 (most : Int)] w (JPost g (limL most l).2 (.int .i64 ((limL most l).1 : Int)) w) := by
  have hv := wordL_le h.out.byt
  have cw := jword_any g l w h
  have E := hide (show limL most l = (min (wordL l).1 most, (wordL l).2) from rfl)
  rw [E.out]
  obtain ⟨v, hv'⟩ : ∃ v, (wordL l).1 = v := ⟨_, rfl⟩
  rw [hv'] at cw hv ⊢
  have hwm : IntKind.u64.wrap (most : Int) = (most : Int) := by simp [IntKind.wrap, IntKind.bits, IntKind.signed]; omega
  have hmz : (0 : Int) ≤ (most : Int) := by omega
  clear hv' E
  go_enter Tryz.func76, Tryz.ntmps76
  go_wp2_with fail
  refine cw.mono ?_
  rintro e w' ⟨rfl, hR, hG⟩
  have HR := hide hR
  have HG := hide hG
  clear hR hG cw
  go_wp2
  go_ret
  rw [show ((min v most : Nat) : Int) = min (v : Int) (most : Int) by omega]
  exact ⟨rfl, HR.out, HG.out⟩

theorem opL_nil {l : List Int} (h : l.length = 0) : opL l = (0, []) := by rw [List.eq_nil_of_length_eq_zero h]; rfl
set_option maxHeartbeats 400000 in
theorem jop_any (g : Nat) (l : List Int) (w : World) (h : Hid (JR w g l)) :
    Calls Tryz.prog 149 #[.pointer (some ⟨g, 0, none⟩)] w (JPost g (opL l).2 (.int .i64 (opL l).1) w) := by
  obtain ⟨b, off, n, c, h⟩ := h.out
  have H := hide h
  have c0 := h.row.cell (k := 0) rfl
  have z0 := h.row.free 0
  have hlen := h.len
  have hmost := h.most
  have hcm := h.cm
  have hnc := h.nc
  cases l with
  | nil =>
    obtain rfl : n = 0 := hlen.symm
    clear h
    go_enter Tryz.func149, Tryz.ntmps149
    go_wp2
    go_ret
    exact ⟨rfl, ⟨_, _, _, _, H.out⟩, World.grownBy.refl w _⟩
  | cons z r =>
    have hz := h.byt z List.mem_cons_self
    obtain ⟨b', off', e1, hb, hc⟩ := h.see 0 (.int .u8 z) rfl
    obtain ⟨rfl, rfl⟩ : b = b' ∧ off = off' := by
      injection e1 with e1
      injection e1 with e2 e3
      exact ⟨e2, e3⟩
    have hn1 : 1 ≤ n := by rw [← hlen]; simp
    have HR := hide (show (z :: r).drop 1 = r from rfl)
    have hiz : IntKind.i64.wrap z = z := by rw [IntKind.wrap_i64]; omega
    rw [Nat.add_zero] at hc
    clear h e1 hlen
    by_cases hcj : c = 1
    · have hnj : n = 1 := by omega
      subst hcj hnj
      go_enter Tryz.func149, Tryz.ntmps149
      go_wp2
      go_ret
      exact ⟨rfl, ⟨_, _, _, _, H.out.end_ (j := 1) _ _ (by omega) rfl⟩, grown_set (World.grownBy.refl w _) 0 _⟩
    · go_enter Tryz.func149, Tryz.ntmps149
      go_wp2
      go_ret
      exact ⟨rfl, ⟨_, _, _, _, H.out.drop_ (j := 1) hn1⟩, grown_set (World.grownBy.refl w _) 0 _⟩
end Go.Proofs.YtlcmcmocjbeocaaGreatDoor
end

section
/-
  The program's reader: instr. Conditions: at most 2^20 bytes.
-/
namespace Go.Proofs.YtlcmcmocjbeocaaGreatDoor
open Go.RowKit

/-- A reader that has turned to l, since w. -/
structure JK (w : World) (g : Nat) (l : List Int) (w' : World) : Prop where
  r : JR w' g l
  g : w.grownBy w' (some g)
section
variable {w w' w'' : World} {g : Nat} {l l' : List Int}
theorem JK.set {gb : Nat} (h : JK w g l w') (hgb : w.heap.size ≤ gb) (hg : g < w.heap.size) (k : Nat) (u : Value) : JK w g l (w'.setCell ⟨gb, k, none⟩ u) :=
  ⟨h.r.kept (grown_put w' gb k u) (fun j hj => by injection hj with hj; omega), h.g.andThen (grown_put w' gb k u) (fun j hj => .inl (by injection hj with hj; omega))⟩
theorem JK.alloc (h : JK w g l w') (o : Obj) : JK w g l (w'.alloc o) := ⟨h.r.alloc o, h.g.trans (World.grownBy_alloc _ _ _)⟩
theorem JK.to (h : JK w g l w') (hr : JR w'' g l') (hg : w'.grownBy w'' (some g)) : JK w g l' w'' := ⟨hr, h.g.trans hg⟩
theorem JK.start (h : JR w g l) : JK w g l w := ⟨h, World.grownBy.refl w _⟩
theorem JK.drewN (h : JK w g l w') (m : Nat) : JK w g l (w'.drewN m) := ⟨h.r.drewN m, grown_draws h.g m⟩
theorem JK.below (h : JK w g l w') (hb : Below w'.heap.size w' w'') : JK w g l w'' := ⟨h.r.below hb, h.g.trans (grown_below hb _)⟩
end
/-- The cells of an instruction of which i numbers have been read. -/
def jCells (o : Int) (l : List Int) (i : Nat) : List Value := [.int .i64 o, .int .i64 (nNum l i 0), .int .i64 (nNum l i 1), .int .i64 (nNum l i 2), .int .u64 0]
theorem jCells_set (o : Int) (l : List Int) {i : Nat} (h : i < 3) : (jCells o l i).set (i + 1) (.int .i64 (numL (nRest l i)).1) = jCells o l (i + 1) := by
  rcases (show i = 0 ∨ i = 1 ∨ i = 2 by omega) with rfl | rfl | rfl <;> simp [jCells, nNum]
theorem jCells_at (o : Int) (l : List Int) {i : Nat} (h : i < 3) : (jCells o l i)[i + 1]? = some (.int .i64 0) := by
  rcases (show i = 0 ∨ i = 1 ∨ i = 2 by omega) with rfl | rfl | rfl <;> simp [jCells, nNum]
theorem jptr_at (X : Nat) {i : Nat} (h : i < 3) : ([.pointer (some ⟨X, 1, none⟩), .pointer (some ⟨X, 2, none⟩), .pointer (some ⟨X, 3, none⟩)] : List Value)[i]? = some (.pointer (some ⟨X, i + 1, none⟩)) := by
  rcases (show i = 0 ∨ i = 1 ∨ i = 2 by omega) with rfl | rfl | rfl <;> rfl
theorem opL_in {l : List Int} (h : Byt l) : 0 ≤ (opL l).1 ∧ (opL l).1 ≤ 255 := by
  cases l with
  | nil => exact ⟨Int.le_refl _, show (0 : Int) ≤ 255 by decide⟩
  | cons z r => exact h z List.mem_cons_self
theorem jfin_on {g : Nat} {l : List Int} {w : World} (h : mI (opL l).1 = true) : ∀ e w', e = .returned (iv (opL l).1 (nNum (opL l).2 (mcnt (opL l).1) 0) (nNum (opL l).2 (mcnt (opL l).1) 1) (nNum (opL l).2 (mcnt (opL l).1) 2) ((wordL (nRest (opL l).2 (mcnt (opL l).1))).1 : Int)) → JR w' g (wordL (nRest (opL l).2 (mcnt (opL l).1))).2 → w.grownBy w' (some g) → JPost g (minsL l).2 (iv (minsL l).1.op (minsL l).1.a (minsL l).1.b (minsL l).1.c (minsL l).1.imm) w e w' := by
  intro e w' he hr hg
  unfold minsL
  simp only [h, if_true]
  exact ⟨he, hr, hg⟩
theorem jfin_off {g : Nat} {l : List Int} {w : World} (h : mI (opL l).1 = false) : ∀ e w', e = .returned (iv (opL l).1 (nNum (opL l).2 (mcnt (opL l).1) 0) (nNum (opL l).2 (mcnt (opL l).1) 1) (nNum (opL l).2 (mcnt (opL l).1) 2) 0) → JR w' g (nRest (opL l).2 (mcnt (opL l).1)) → w.grownBy w' (some g) → JPost g (minsL l).2 (iv (minsL l).1.op (minsL l).1.a (minsL l).1.b (minsL l).1.c (minsL l).1.imm) w e w' := by
  intro e w' he hr hg
  unfold minsL
  simp only [h, Bool.false_eq_true, if_false]
  exact ⟨he, hr, hg⟩

set_option maxRecDepth 100000 in
set_option maxHeartbeats 2000000 in
theorem jinstr_any (g : Nat) (l : List Int) (w : World) (h : Hid (JR w g l)) :
    Calls Tryz.prog 112 #[.pointer (some ⟨g, 0, none⟩)] w (JPost g (minsL l).2 (iv (minsL l).1.op (minsL l).1.a (minsL l).1.b (minsL l).1.c (minsL l).1.imm) w) := by
  have hg := h.out.lt
  obtain ⟨W, hW⟩ : ∃ W, w.alloc (.cells #[.int .i64 0, .int .i64 0, .int .i64 0, .int .i64 0, .int .u64 0] 64) = W := ⟨_, rfl⟩
  have HW := hide hW
  have K0 := hide (show JK w g l W by rw [← hW]; exact (JK.start h.out).alloc _)
  have R0 := hide (show Row W w.heap.size 64 [.int .i64 0, .int .i64 0, .int .i64 0, .int .i64 0, .int .u64 0] by rw [← hW]; exact Row.new w _ _)
  have co := jop_any g l W (hide K0.out.r)
  have ho255 := opL_in h.out.byt
  have EON := hide (@jfin_on g l w)
  have EOFF := hide (@jfin_off g l w)
  obtain ⟨o, ho⟩ : ∃ o, (opL l).1 = o := ⟨_, rfl⟩
  obtain ⟨l1, hl1⟩ : ∃ l1, (opL l).2 = l1 := ⟨_, rfl⟩
  rw [ho, hl1] at co
  rw [ho] at ho255 EON EOFF
  rw [hl1] at EON EOFF
  obtain ⟨k, hk⟩ : ∃ k, mcnt o = k := ⟨_, rfl⟩
  obtain ⟨ui, hu⟩ : ∃ u, mI o = u := ⟨_, rfl⟩
  have hk3 : k ≤ 3 := by rw [← hk]; exact mcnt_le _
  have cp := fun w => jopd_any o w ho255.1 ho255.2
  rw [hk, hu] at cp
  rw [hk, hu] at EON EOFF
  clear hW ho hl1 hk hu
  go_enter Tryz.func112, Tryz.ntmps112
  go_wp2_with fail
  rw [HW.out]
  refine co.mono ?_
  rintro e w1 ⟨rfl, hR, hG⟩
  have K1 := hide (K0.out.to hR hG)
  have R1 := hide (R0.out.grown hG (fun e => by injection e with e; omega))
  obtain ⟨X, hX⟩ : ∃ X, w1.heap.size = X := ⟨_, rfl⟩
  have hwX : w.heap.size < X := by rw [← hX]; exact R1.out.lt
  obtain ⟨W2, hW2⟩ : ∃ W2, w1.alloc (.cells #[.int .i64 o, .int .i64 0, .int .i64 0, .int .i64 0, .int .u64 0] 64) = W2 := ⟨_, rfl⟩
  have HW2 := hide hW2
  have K2 := hide (show JK w g l1 W2 by rw [← hW2]; exact K1.out.alloc _)
  have R2 := hide (show Row W2 w.heap.size 64 [.int .i64 0, .int .i64 0, .int .i64 0, .int .i64 0, .int .u64 0] by rw [← hW2]; exact R1.out.alloc _)
  have X2 := hide (show Row W2 X 64 (jCells o l1 0) by rw [← hW2, ← hX]; exact Row.new w1 64 [.int .i64 o, .int .i64 0, .int .i64 0, .int .i64 0, .int .u64 0])
  have HX := hide hX
  have x0 := X2.out.cell (k := 0) rfl
  clear hW2 hR hG K0 R0 K1 R1 HW co hX
  go_upto_region 2 with (fail)
  rw [HW2.out, HX.out]
  go_wp2_with fail
  refine (cp _).mono ?_
  rintro e W2' ⟨rfl, hb2⟩
  have K2' := hide (K2.out.below hb2)
  have R2' := hide (R2.out.call hb2)
  have X2' := hide (X2.out.call hb2)
  obtain ⟨N, hN⟩ : ∃ N, W2'.heap.size = N := ⟨_, rfl⟩
  have hXN : X < N := by rw [← hN]; exact X2'.out.lt
  have HN := hide hN
  obtain ⟨W3, hW3⟩ : ∃ W3, W2'.alloc (.cells #[.pointer (some ⟨X, 1, none⟩), .pointer (some ⟨X, 2, none⟩), .pointer (some ⟨X, 3, none⟩)] 200) = W3 := ⟨_, rfl⟩
  have HW3 := hide hW3
  have K3 := hide (show JK w g (nRest l1 0) W3 by rw [← hW3]; exact K2'.out.alloc _)
  have R3 := hide (show Row W3 w.heap.size 64 [.int .i64 0, .int .i64 0, .int .i64 0, .int .i64 0, .int .u64 0] by rw [← hW3]; exact R2'.out.alloc _)
  have X3 := hide (show Row W3 X 64 (jCells o l1 0) by rw [← hW3]; exact X2'.out.alloc _)
  have N3 := hide (show Row W3 N 200 [.pointer (some ⟨X, 1, none⟩), .pointer (some ⟨X, 2, none⟩), .pointer (some ⟨X, 3, none⟩)] by rw [← hW3, ← hN]; exact Row.new W2' 200 [.pointer (some ⟨X, 1, none⟩), .pointer (some ⟨X, 2, none⟩), .pointer (some ⟨X, 3, none⟩)])
  clear hW3 x0 K2 R2 X2 HW2 K2' R2' X2' hb2 cp hN HX
  have hkz : (0 : Int) ≤ (k : Int) := by omega
  have hkz3 : (k : Int) ≤ 3 := by omega
  go_upto_region 4 with (fail)
  rw [HW3.out, HN.out]
  clear HW3 HN
  go_loopw [7, 24] (fun _ iv wr => ∃ i : Nat, i ≤ k ∧ iv = .int .i64 (i : Int) ∧ Hid (JK w g (nRest l1 i) wr) ∧ Hid (Row wr w.heap.size 64 [.int .i64 0, .int .i64 0, .int .i64 0, .int .i64 0, .int .u64 0]) ∧ Hid (Row wr X 64 (jCells o l1 i)) ∧ Hid (Row wr N 200 [.pointer (some ⟨X, 1, none⟩), .pointer (some ⟨X, 2, none⟩), .pointer (some ⟨X, 3, none⟩)])) (fun _ iv _ => k - (intOf iv).toNat)
  case atStart => exact ⟨0, Nat.zero_le _, rfl, K3, R3, X3, N3⟩
  case round =>
    obtain ⟨i, hik, rfl, KI, RI, XI, NI⟩ := hrel
    clear K3 R3 X3 N3
    by_cases hlt : i < k
    · have hi3 : i < 3 := by omega
      have hlz : (i : Int) < (k : Int) := by omega
      have hiz : (0 : Int) ≤ (i : Int) := by omega
      have n0 := NI.out.cell (jptr_at X hi3)
      go_wp2_with fail
      refine (jnum_any g (nRest l1 i) wr (hide KI.out.r)).mono ?_
      rintro e w4 ⟨rfl, hR, hG⟩
      have K4 := hide (show JK w g (nRest l1 (i + 1)) w4 from KI.out.to hR hG)
      have R4 := hide (RI.out.grown hG (fun e => by injection e with e; omega))
      have X4 := hide (XI.out.grown hG (fun e => by injection e with e; omega))
      have N4 := hide (NI.out.grown hG (fun e => by injection e with e; omega))
      have f0 := X4.out.free (i + 1)
      have g0 := X4.out.cell (jCells_at o l1 hi3)
      have N5 := X4.out.set_ (i + 1) (.int .i64 (numL (nRest l1 i)).1)
      rw [jCells_set o l1 hi3] at N5
      have HX5 := hide N5
      have R5 := hide (R4.out.far (p := ⟨X, i + 1, none⟩) (by simp; omega) (.int .i64 (numL (nRest l1 i)).1))
      have HN5 := hide (N4.out.far (p := ⟨X, i + 1, none⟩) (by simp; omega) (.int .i64 (numL (nRest l1 i)).1))
      have K5 := hide (K4.out.set (gb := X) (by omega) hg (i + 1) (.int .i64 (numL (nRest l1 i)).1))
      clear hR hG N5 KI RI XI NI K4 R4 X4 N4 n0
      go_wp2_with fail
      go_roundw
      case rel => exact ⟨i + 1, by omega, by go_num, K5, R5, HX5, HN5⟩
      case measure => simp [intOf]; omega
    · have hi2 : k = i := by omega
      subst hi2
      have hlz : ¬ ((k : Int) < (k : Int)) := by omega
      obtain ⟨v0, hv0⟩ : ∃ v, nNum l1 k 0 = v := ⟨_, rfl⟩
      obtain ⟨v1, hv1⟩ : ∃ v, nNum l1 k 1 = v := ⟨_, rfl⟩
      obtain ⟨v2, hv2⟩ : ∃ v, nNum l1 k 2 = v := ⟨_, rfl⟩
      have X6 := hide (show Row wr X 64 [.int .i64 o, .int .i64 v0, .int .i64 v1, .int .i64 v2, .int .u64 0] by rw [← hv0, ← hv1, ← hv2]; exact XI.out)
      have EON2 := hide EON.out
      have EOFF2 := hide EOFF.out
      rw [hv0, hv1, hv2] at EON2 EOFF2
      obtain ⟨l2, hl2⟩ : ∃ l2, nRest l1 k = l2 := ⟨_, rfl⟩
      rw [hl2] at KI EON2 EOFF2
      have K6 := KI
      have R6 := RI
      clear hv0 hv1 hv2 hl2 XI NI KI RI EON EOFF hlt
      cases ui with
      | false =>
        have EM := hide (EOFF2.out rfl)
        clear EON2 EOFF2
        have x0 := X6.out.cell (k := 0) rfl
        have x1 := X6.out.cell (k := 1) rfl
        have x2 := X6.out.cell (k := 2) rfl
        have x3 := X6.out.cell (k := 3) rfl
        have x4 := X6.out.cell (k := 4) rfl
        have r0 := R6.out.cell (k := 0) rfl
        have r1 := R6.out.cell (k := 1) rfl
        have r2 := R6.out.cell (k := 2) rfl
        have r3 := R6.out.cell (k := 3) rfl
        have r4 := R6.out.cell (k := 4) rfl
        have q0 := R6.out.free 0
        have q1 := R6.out.free 1
        have q2 := R6.out.free 2
        have q3 := R6.out.free 3
        have q4 := R6.out.free 4
        have hf := hide (((((R6.out.set_ 0 (.int .i64 o)).set_ 1 (.int .i64 v0)).set_ 2 (.int .i64 v1)).set_ 3 (.int .i64 v2)).set_ 4 (.int .u64 0))
        have KF := hide (((((K6.out.set (Nat.le_refl w.heap.size) hg 0 (.int .i64 o)).set (Nat.le_refl w.heap.size) hg 1 (.int .i64 v0)).set (Nat.le_refl w.heap.size) hg 2 (.int .i64 v1)).set (Nat.le_refl w.heap.size) hg 3 (.int .i64 v2)).set (Nat.le_refl w.heap.size) hg 4 (.int .u64 0))
        go_wp2
        have f0 := hf.out.cell (k := 0) rfl
        have f1 := hf.out.cell (k := 1) rfl
        have f2 := hf.out.cell (k := 2) rfl
        have f3 := hf.out.cell (k := 3) rfl
        have f4 := hf.out.cell (k := 4) rfl
        exact bodyPost_ret (v := iv o v0 v1 v2 0) (by simp [results, Tryz.results112, go_sem, f0, f1, f2, f3, f4]) rfl (EM.out _ _ rfl KF.out.r KF.out.g)
      | true =>
        have EM := hide (EON2.out rfl)
        clear EON2 EOFF2
        go_wp2_with fail
        refine (jword_any g l2 wr (hide K6.out.r)).mono ?_
        rintro e w7 ⟨rfl, hR, hG⟩
        obtain ⟨m, hm⟩ : ∃ m : Int, ((wordL l2).1 : Int) = m := ⟨_, rfl⟩
        have K7 := hide (K6.out.to hR hG)
        have R7 := hide (R6.out.grown hG (fun e => by injection e with e; omega))
        have X7 := hide (X6.out.grown hG (fun e => by injection e with e; omega))
        have u4 := X7.out.free 4
        have y4 := X7.out.cell (k := 4) rfl
        have K8 := hide (K7.out.set (show w.heap.size ≤ X by omega) hg 4 (.int .u64 m))
        have R8 := hide (R7.out.far (p := ⟨X, 4, none⟩) (by simp; omega) (.int .u64 m))
        have X8 := hide (X7.out.set_ 4 (.int .u64 m))
        have EM2 := EM.out
        rw [hm] at EM2 ⊢
        have EM := hide EM2
        clear EM2 hm hR hG K6 R6 X6
        have x0 := X8.out.cell (k := 0) rfl
        have x1 := X8.out.cell (k := 1) rfl
        have x2 := X8.out.cell (k := 2) rfl
        have x3 := X8.out.cell (k := 3) rfl
        have x4 := X8.out.cell (k := 4) rfl
        have r0 := R8.out.cell (k := 0) rfl
        have r1 := R8.out.cell (k := 1) rfl
        have r2 := R8.out.cell (k := 2) rfl
        have r3 := R8.out.cell (k := 3) rfl
        have r4 := R8.out.cell (k := 4) rfl
        have q0 := R8.out.free 0
        have q1 := R8.out.free 1
        have q2 := R8.out.free 2
        have q3 := R8.out.free 3
        have q4 := R8.out.free 4
        have hf := hide (((((R8.out.set_ 0 (.int .i64 o)).set_ 1 (.int .i64 v0)).set_ 2 (.int .i64 v1)).set_ 3 (.int .i64 v2)).set_ 4 (.int .u64 m))
        have KF := hide (((((K8.out.set (Nat.le_refl w.heap.size) hg 0 (.int .i64 o)).set (Nat.le_refl w.heap.size) hg 1 (.int .i64 v0)).set (Nat.le_refl w.heap.size) hg 2 (.int .i64 v1)).set (Nat.le_refl w.heap.size) hg 3 (.int .i64 v2)).set (Nat.le_refl w.heap.size) hg 4 (.int .u64 m))
        go_wp2
        have f0 := hf.out.cell (k := 0) rfl
        have f1 := hf.out.cell (k := 1) rfl
        have f2 := hf.out.cell (k := 2) rfl
        have f3 := hf.out.cell (k := 3) rfl
        have f4 := hf.out.cell (k := 4) rfl
        have F := EM.out _ _ rfl KF.out.r KF.out.g
        refine bodyPost_ret (v := iv o v0 v1 v2 m) ?_ rfl F
        simp [results, Tryz.results112, go_sem, f0, f1, f2, f3, f4]
end Go.Proofs.YtlcmcmocjbeocaaGreatDoor
end
