import Derived.Test.YtlkcjjalkdlicaaDoorMJmath
import Derived.Test.YtlkcjjalkdlicaaDoorMApn
import Derived.Test.YtlkcjjalkdlicaaDoorMUint
import Derived.Test.YtlkcjjalkdlicaaDoorMEpow
set_option linter.unusedVariables false
set_option linter.unusedSimpArgs false
section
/-
  The program's reader of a target's bytes (package machcode): block g is a reader; the contracts of word, number, limited, op. Conditions: at most 2^20 bytes.
-/
namespace Go.Proofs.YtlkcjjalkdlicaaDoor
open Go.RowKit

/-- Block g is a reader of the bytes l, which lie below it. -/
structure JRd (w : World) (g b off n c : Nat) (l : List Int) : Prop where
  row : Row w g 128 [.slice (some ⟨b, off, none⟩) n c]
  len : l.length = n
  nc : n ≤ c
  cm : c ≤ 9223372036854775807
  most : n ≤ 1048576
  byt : Byt l
  see : Sees w g (some ⟨b, off, none⟩) (cellsU8 l)
def JR (w : World) (g : Nat) (l : List Int) : Prop := ∃ b off n c, JRd w g b off n c l
/-- The reader has turned to l, the call returned v; all else is as it was. -/
def JPost (g : Nat) (l : List Int) (v : Value) (w : World) (e : Ending) (w' : World) : Prop := e = .returned v ∧ JR w' g l ∧ w.grownBy w' (some g)

section
variable {w w' : World} {g : Nat} {l : List Int}
theorem JR.lt (h : JR w g l) : g < w.heap.size := by
  obtain ⟨b, off, n, c, h⟩ := h
  exact h.row.lt
theorem JR.byt (h : JR w g l) : Byt l := by
  obtain ⟨b, off, n, c, h⟩ := h
  exact h.byt
theorem JR.kept {row : Option Nat} (h : JR w g l) (hg : w.grownBy w' row) (hr : ∀ k, row = some k → g < k) : JR w' g l := by
  have hl := h.lt
  obtain ⟨b, off, n, c, h⟩ := h
  refine ⟨b, off, n, c, h.row.grown hg (fun e => ?_), h.len, h.nc, h.cm, h.most, h.byt, h.see.keep fun p hp => ?_⟩
  · have := hr g e.symm
    omega
  · exact World.cell?_of_block (hg.block p.block (by omega) (fun e => by have := hr p.block e.symm; omega))
theorem JR.below (h : JR w g l) (hb : Below w.heap.size w w') : JR w' g l := h.kept (grown_below hb none) (fun k e => by cases e)
theorem JR.alloc (h : JR w g l) (o : Obj) : JR (w.alloc o) g l := h.below (below1 w o)
theorem JR.drewN (h : JR w g l) (m : Nat) : JR (w.drewN m) g l := by
  obtain ⟨b, off, n, c, h⟩ := h
  exact ⟨b, off, n, c, h.row.drewN m, h.len, h.nc, h.cm, h.most, h.byt, h.see.draws m⟩
end
/-- The reader's bytes turned: the first j are gone. -/
theorem JRd.drop_ {w : World} {g b off n c : Nat} {l : List Int} (h : JRd w g b off n c l) {j : Nat} (hj : j ≤ n) : JRd (w.setCell ⟨g, 0, none⟩ (.slice (some ⟨b, off + j, none⟩) (n - j) (c - j))) g b (off + j) (n - j) (c - j) (l.drop j) := by
  have hs := (h.see.drop j).keep (w' := w.setCell ⟨g, 0, none⟩ (.slice (some ⟨b, off + j, none⟩) (n - j) (c - j))) fun p hp => World.cell?_setCell_other _ _ _ _ (fun e => by subst e; simp at hp)
  rw [show (cellsU8 l).drop j = cellsU8 (l.drop j) by simp [cellsU8], show (some (⟨b, off, none⟩ : Addr)).map (·.add j) = some ⟨b, off + j, none⟩ by simp [WideShapes.add_plain]] at hs
  exact ⟨h.row.set_ 0 _, by rw [List.length_drop, h.len], by have := h.nc; omega, by have := h.cm; omega, by have := h.most; omega, h.byt.drop j, hs⟩
/-- All bytes are gone. -/
theorem JRd.end_ {w : World} {g b off n c : Nat} {l : List Int} (h : JRd w g b off n c l) (o' c' : Nat) (hc : c' ≤ 9223372036854775807) {j : Nat} (hj : j = n) : JRd (w.setCell ⟨g, 0, none⟩ (.slice (some ⟨b, o', none⟩) 0 c')) g b o' 0 c' (l.drop j) := by
  have e : l.drop j = [] := List.drop_eq_nil_of_le (by rw [h.len]; omega)
  rw [e]
  exact ⟨h.row.set_ 0 _, rfl, Nat.zero_le _, hc, Nat.zero_le _, Byt.nil_, Sees.nil_ _ _ _⟩
theorem JR.keep0 {w : World} {g b off n c : Nat} {l : List Int} (h : JRd w g b off n c l) : JRd (w.setCell ⟨g, 0, none⟩ (.slice (some ⟨b, off, none⟩) n c)) g b off n c l := by
  have := h.drop_ (j := 0) (Nat.zero_le _)
  simpa using this

set_option maxRecDepth 100000 in
set_option maxHeartbeats 800000 in
theorem jword_any (g : Nat) (l : List Int) (w : World) (h : Hid (JR w g l)) :
    Calls Tryd.prog 101 #[.pointer (some ⟨g, 0, none⟩)] w (JPost g (wordL l).2 (.int .u64 ((wordL l).1 : Int)) w) := by
  obtain ⟨b, off, n, c, h⟩ := h.out
  have H := hide h
  have c0 := h.row.cell (k := 0) rfl
  have z0 := h.row.free 0
  have hlen := h.len
  have hmost := h.most
  have hcm := h.cm
  have hnc := h.nc
  have cu := uint_in (some ⟨b, off, none⟩) n c l 0 g w (hide (fun e => by cases e)) (hide hlen) (by omega) hnc h.see (hide h.byt) (Nat.zero_le _)
  have E0 := hide (show ((0 : Nat) : Int) = 0 from rfl)
  rw [E0.out] at cu
  rcases hm : wordR l with x | ⟨v, r1⟩
  · obtain ⟨m, rfl, hm0, hm2, hsc⟩ := wordR_scan_no hm
    have hU := uintAt_err (zs := l) (a := 0) (e := m) (Nat.zero_le _) hsc hm0
    rw [E0.out] at hU
    have cv : Calls Tryd.prog 131 #[.slice (some ⟨b, off, none⟩) n c, .int .i64 0] w (fun e w'' => e = .returned (.tuple #[.int .u64 0, .int .i64 0, .int .i64 (m : Int)]) ∧ w = w'') := cu.mono fun e w'' he => ⟨by rw [he.1, hU]; rfl, he.2⟩
    have EE := hide (show wordL l = (0, l) by unfold wordL; rw [hm])
    rw [EE.out]
    clear hU cu hsc hm h
    by_cases hc0 : c = 0
    · have hn0 : n = 0 := by omega
      subst hc0 hn0
      go_enter Tryd.func101, Tryd.ntmps101
      go_wp2_with fail
      refine cv.mono ?_
      rintro e0 w' ⟨rfl, rfl⟩
      go_wp2
      go_ret
      exact ⟨rfl, ⟨_, _, _, _, JR.keep0 H.out⟩, grown_set (World.grownBy.refl w _) 0 _⟩
    · go_enter Tryd.func101, Tryd.ntmps101
      go_wp2_with fail
      refine cv.mono ?_
      rintro e0 w' ⟨rfl, rfl⟩
      go_wp2
      go_ret
      exact ⟨rfl, ⟨_, _, _, _, JR.keep0 H.out⟩, grown_set (World.grownBy.refl w _) 0 _⟩
  · obtain ⟨j, hsc, hrj⟩ := wordR_scan hm
    have hU := uintAt_ok (zs := l) (a := 0) (v := v) (e := j) (Nat.zero_le _) hsc
    have hle : v ≤ 18446744073709551615 := (wordR_ok h.byt hm).2
    have hjl : j ≤ n := by
      obtain ⟨u, _, he, _, hl2, _⟩ := scan_ok l 0 0 v j h.byt hsc
      omega
    have hj1 : 1 ≤ j := by
      obtain ⟨u, _, he, _, hl2, _⟩ := scan_ok l 0 0 v j h.byt hsc
      have := lenv_pos u
      omega
    have cv : Calls Tryd.prog 131 #[.slice (some ⟨b, off, none⟩) n c, .int .i64 0] w (fun e w'' => e = .returned (.tuple #[.int .u64 (v : Int), .int .i64 (j : Int), .int .i64 0]) ∧ w = w'') := cu.mono fun e w'' he => ⟨by rw [he.1]; rw [E0.out, Int.zero_add] at hU; rw [hU]; rfl, he.2⟩
    have EE := hide (show wordL l = (v, l.drop j) by unfold wordL; rw [hm, hrj])
    rw [EE.out]
    clear hU cu hsc hm h hrj
    by_cases hcj : c = j
    · have hnj : j = n := by omega
      subst hcj hnj
      go_enter Tryd.func101, Tryd.ntmps101
      go_wp2_with fail
      refine cv.mono ?_
      rintro e0 w' ⟨rfl, rfl⟩
      go_wp2
      go_ret
      exact ⟨rfl, ⟨_, _, _, _, H.out.end_ _ _ (by omega) rfl⟩, grown_set (World.grownBy.refl w _) 0 _⟩
    · go_enter Tryd.func101, Tryd.ntmps101
      go_wp2_with fail
      refine cv.mono ?_
      rintro e0 w' ⟨rfl, rfl⟩
      go_wp2
      go_ret
      exact ⟨rfl, ⟨_, _, _, _, H.out.drop_ hjl⟩, grown_set (World.grownBy.refl w _) 0 _⟩
theorem wordL_le {l : List Int} (h : Byt l) : (wordL l).1 ≤ 18446744073709551615 := by
  unfold wordL
  rcases hm : wordR l with x | ⟨v, r⟩
  · exact Nat.zero_le _
  · exact (wordR_ok h hm).2

set_option maxHeartbeats 400000 in
theorem jnum_any (g : Nat) (l : List Int) (w : World) (h : Hid (JR w g l)) :
    Calls Tryd.prog 74 #[.pointer (some ⟨g, 0, none⟩)] w (JPost g (numL l).2 (.int .i64 (numL l).1) w) := by
  have hv := wordL_le h.out.byt
  have cw := jword_any g l w h
  have E := hide (show numL l = (wrap64 ((wordL l).1 : Int), (wordL l).2) from rfl)
  rw [E.out]
  obtain ⟨v, hv'⟩ : ∃ v, (wordL l).1 = v := ⟨_, rfl⟩
  rw [hv'] at cw hv ⊢
  clear hv' E
  go_enter Tryd.func74, Tryd.ntmps74
  go_wp2_with fail
  refine cw.mono ?_
  rintro e w' ⟨rfl, hR, hG⟩
  have HR := hide hR
  have HG := hide hG
  clear hR hG cw
  go_wp2
  go_ret
  exact ⟨rfl, HR.out, HG.out⟩
set_option maxHeartbeats 400000 in
theorem jlim_any (g most : Nat) (l : List Int) (w : World) (h : Hid (JR w g l)) (hm : most ≤ 2147483647) :
    Calls Tryd.prog 73 #[.pointer (some ⟨g, 0, none⟩), .int .i64 (most : Int)] w (JPost g (limL most l).2 (.int .i64 ((limL most l).1 : Int)) w) := by
  have hv := wordL_le h.out.byt
  have cw := jword_any g l w h
  have E := hide (show limL most l = (min (wordL l).1 most, (wordL l).2) from rfl)
  rw [E.out]
  obtain ⟨v, hv'⟩ : ∃ v, (wordL l).1 = v := ⟨_, rfl⟩
  rw [hv'] at cw hv ⊢
  have hwm : IntKind.u64.wrap (most : Int) = (most : Int) := by simp [IntKind.wrap, IntKind.bits, IntKind.signed]; omega
  have hmz : (0 : Int) ≤ (most : Int) := by omega
  clear hv' E
  go_enter Tryd.func73, Tryd.ntmps73
  go_wp2_with fail
  refine cw.mono ?_
  rintro e w' ⟨rfl, hR, hG⟩
  have HR := hide hR
  have HG := hide hG
  clear hR hG cw
  go_wp2
  go_ret
  rw [show ((min v most : Nat) : Int) = min (v : Int) (most : Int) by omega]
  exact ⟨rfl, HR.out, HG.out⟩

theorem opL_nil {l : List Int} (h : l.length = 0) : opL l = (0, []) := by rw [List.eq_nil_of_length_eq_zero h]; rfl
set_option maxHeartbeats 400000 in
theorem jop_any (g : Nat) (l : List Int) (w : World) (h : Hid (JR w g l)) :
    Calls Tryd.prog 132 #[.pointer (some ⟨g, 0, none⟩)] w (JPost g (opL l).2 (.int .i64 (opL l).1) w) := by
  obtain ⟨b, off, n, c, h⟩ := h.out
  have H := hide h
  have c0 := h.row.cell (k := 0) rfl
  have z0 := h.row.free 0
  have hlen := h.len
  have hmost := h.most
  have hcm := h.cm
  have hnc := h.nc
  cases l with
  | nil =>
    obtain rfl : n = 0 := hlen.symm
    clear h
    go_enter Tryd.func132, Tryd.ntmps132
    go_wp2
    go_ret
    exact ⟨rfl, ⟨_, _, _, _, H.out⟩, World.grownBy.refl w _⟩
  | cons z r =>
    have hz := h.byt z List.mem_cons_self
    obtain ⟨b', off', e1, hb, hc⟩ := h.see 0 (.int .u8 z) rfl
    obtain ⟨rfl, rfl⟩ : b = b' ∧ off = off' := by
      injection e1 with e1
      injection e1 with e2 e3
      exact ⟨e2, e3⟩
    have hn1 : 1 ≤ n := by rw [← hlen]; simp
    have HR := hide (show (z :: r).drop 1 = r from rfl)
    have hiz : IntKind.i64.wrap z = z := by rw [IntKind.wrap_i64]; omega
    rw [Nat.add_zero] at hc
    clear h e1 hlen
    by_cases hcj : c = 1
    · have hnj : n = 1 := by omega
      subst hcj hnj
      go_enter Tryd.func132, Tryd.ntmps132
      go_wp2
      go_ret
      exact ⟨rfl, ⟨_, _, _, _, H.out.end_ (j := 1) _ _ (by omega) rfl⟩, grown_set (World.grownBy.refl w _) 0 _⟩
    · go_enter Tryd.func132, Tryd.ntmps132
      go_wp2
      go_ret
      exact ⟨rfl, ⟨_, _, _, _, H.out.drop_ (j := 1) hn1⟩, grown_set (World.grownBy.refl w _) 0 _⟩
end Go.Proofs.YtlkcjjalkdlicaaDoor
end
