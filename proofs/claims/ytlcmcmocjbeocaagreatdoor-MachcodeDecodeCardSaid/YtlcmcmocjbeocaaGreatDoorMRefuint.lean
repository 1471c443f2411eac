import Derived.Test.YtlcmcmocjbeocaaGreatDoorMJmath
import Derived.Test.YtlcmcmocjbeocaaGreatDoorMBitsm
import Derived.Test.YtlcmcmocjbeocaaGreatDoorMPmem
set_option linter.unusedVariables false
set_option linter.unusedSimpArgs false
section
/-
  The contract of the reference's Uint: it returns what 'uintAt' says, for every offset, and leaves memory alone. Condition: at most 2^62 bytes.
-/
namespace Go.Proofs.YtlcmcmocjbeocaaGreatDoor
open Go.RowKit

theorem and_127 (z : Int) (h0 : 0 ≤ z) (h1 : z ≤ 255) : bits BinOp.and IntKind.u8 z 127 = z % 128 := by
  obtain ⟨k, rfl⟩ := Int.eq_ofNat_of_zero_le h0
  rw [show (127 : Int) = ((127 : Nat) : Int) from rfl, u8_and_nat k 127 (by omega) (by omega), show k &&& 127 = k % 128 from Nat.and_two_pow_sub_one_eq_mod k 7]
  omega

set_option maxRecDepth 100000 in
set_option maxHeartbeats 800000 in
theorem refuint_out (A : Option Addr) (n c : Nat) (zs : List Int) (a : Int) (w : World) (hn : Hid (zs.length = n)) (hm : n ≤ 4611686018427387904) (h : a < 0 ∨ (n : Int) < a) :
    Calls Tryz.prog 113 #[.slice A n c, .int .i64 a] w (UintPost zs a w) := by
  have H := hide (uintAt_out (zs := zs) (a := a) (by have := hn.out; omega))
  rcases h with h | h
  · go_enter Tryz.func113, Tryz.ntmps113
    go_wp2
    go_ret3
    exact ⟨by rw [H.out]; rfl, rfl⟩
  · have h0 : ¬ a < 0 := by omega
    go_enter Tryz.func113, Tryz.ntmps113
    go_wp2
    go_ret3
    exact ⟨by rw [H.out]; rfl, rfl⟩

set_option maxRecDepth 100000 in
set_option maxHeartbeats 1600000 in
theorem refuint_in (A : Option Addr) (n c : Nat) (zs : List Int) (a : Nat) (B : Nat) (w : World) (hn : Hid (zs.length = n)) (hm : n ≤ 4611686018427387904) (hs : Sees w B A (cellsU8 zs)) (hz : Hid (∀ z ∈ zs, 0 ≤ z ∧ z ≤ 255))
    (han : a ≤ n) :
    Calls Tryz.prog 113 #[.slice A n c, .int .i64 a] w (UintPost zs a w) := by
  go_enter Tryz.func113, Tryz.ntmps113
  go_wp2
  go_loop [4, 5, 6, 7, 8] (fun x y z a' k => ∃ (v : Nat) (j : Nat), v ≤ 9223372036854775807 ∧ j ≤ 9 ∧ j ≤ n - a ∧ x = .int .u64 0 ∧ y = .int .i64 0 ∧ z = .int .i64 0 ∧ a' = .int .u64 v ∧ k = .int .i64 j ∧ Hid (v < 128 ^ j) ∧ Hid (scan (zs.drop a) 0 0 = scan (zs.drop (a + j)) j v)) (fun _ _ _ _ k => 10 - (intOf k).toNat)
  case atStart => exact ⟨0, 0, by omega, by omega, by omega, rfl, rfl, rfl, rfl, rfl, by show _ < _; decide, rfl⟩
  case round =>
    obtain ⟨v, j, hv, hj, hjn, rfl, rfl, rfl, rfl, rfl, hvj, hsc⟩ := hrel
    by_cases hlt : j < n - a
    · obtain ⟨b, off, z, he, _, hc, z0, z1, hzk⟩ := byte_at (zs := zs) (k := a + j) hs (by have := hn.out; omega) hz.out
      subst he
      have hd := hide (drop_head hzk.out)
      have hal := hide (show a ≤ zs.length by have := hn.out; omega)
      have han127 := and_127 z z0 z1
      clear hs
      by_cases hj9 : j = 9
      · subst hj9
        by_cases hz1 : 1 < z
        · have H := hide (uintAt_err hal.out (by rw [hsc.out, hd.out]; exact scan_fmt9 hz1) (by decide))
          clear hsc han127
          go_wp2
          go_ret3
          exact ⟨by rw [H.out]; rfl, rfl⟩
        · by_cases hz0 : z = 0
          · subst hz0
            have H := hide (uintAt_err hal.out (by rw [hsc.out, hd.out]; exact scan_zero (by decide)) (by decide))
            clear hsc
            go_wp2
            go_ret3
            exact ⟨by rw [H.out]; rfl, rfl⟩
          · obtain rfl : z = 1 := by omega
            have H := hide (uintAt_ok hal.out (by rw [hsc.out, hd.out]; exact scan_last (by omega) (by omega) (by omega)))
            have ho := or_tenth v (by omega)
            clear hsc
            go_wp2
            go_ret3
            exact ⟨by rw [H.out]; rfl, rfl⟩
      · have hj8 : j ≤ 8 := by omega
        have hb9 : ((j : Int) == 9) = false := by rw [beq_eq_false_iff_ne]; omega
        by_cases hz128 : 128 ≤ z
        · have H := hide (show scan (zs.drop a) 0 0 = _ by rw [hsc.out, hd.out, scan_more (by omega) hz128])
          have ho := or_digit v j (z - 128) hvj.out (by omega) (by omega) hj8
          rw [Nat.mul_comm j 7] at ho
          have hlt' := digit_lt (d := (z - 128).toNat) hvj.out (by omega)
          have h8 := pow128_8 hj8
          obtain ⟨v', hv'⟩ : ∃ v' : Nat, v' = v + (z - 128).toNat * 128 ^ j := ⟨_, rfl⟩
          rw [← hv'] at ho hlt'
          have hb' : v' ≤ 9223372036854775807 := by omega
          have hvj' := hide (show v' < 128 ^ (j + 1) by rw [pow128_succ]; exact hlt')
          rw [show z.toNat - 128 = (z - 128).toNat by omega, ← hv'] at H
          rw [show z % 128 = z - 128 by omega] at han127
          clear hsc hvj hlt' h8 hv'
          go_wp2
          go_round
          case rel => exact ⟨v', j + 1, hb', by omega, by omega, rfl, rfl, rfl, rfl, by go_num, hvj', H⟩
          case measure => simp [intOf]; omega
        · rw [show z % 128 = z by omega] at han127
          by_cases hzz : z = 0 ∧ 0 < j
          · obtain ⟨rfl, hj0⟩ := hzz
            have H := hide (uintAt_err hal.out (by rw [hsc.out, hd.out]; exact scan_zero hj0) (by decide))
            clear hsc hvj
            go_wp2
            go_ret3
            exact ⟨by rw [H.out]; rfl, rfl⟩
          · have H := hide (uintAt_ok hal.out (by rw [hsc.out, hd.out]; exact scan_last (by omega) (by omega) (by omega)))
            have ho := or_digit v j z hvj.out (by omega) (by omega) hj8
            rw [Nat.mul_comm j 7] at ho
            obtain ⟨v', hv'⟩ : ∃ v' : Nat, v' = v + z.toNat * 128 ^ j := ⟨_, rfl⟩
            rw [← hv'] at ho H
            have hv0 : z = 0 → v' = v := by rintro rfl; simp [hv']
            have hvz := hide (show j = 0 → v < 1 by rintro rfl; exact hvj.out)
            clear hsc hvj hv'
            by_cases hz00 : z = 0
            · subst hz00
              obtain rfl : j = 0 := by omega
              obtain rfl : v = 0 := by have h := hvz.out; omega
              obtain rfl := hv0 rfl
              have ho2 : bits BinOp.or IntKind.u64 0 0 = 0 := by decide
              rw [Nat.add_zero] at hc
              clear ho hv0
              go_wp2
              go_ret3
              exact ⟨by rw [H.out]; rfl, rfl⟩
            · have hb0 : (z == 0) = false := by rw [beq_eq_false_iff_ne]; exact hz00
              clear hv0
              go_wp2
              all_goals (go_ret3; exact ⟨by rw [H.out]; rfl, rfl⟩)
    · have H := hide (uintAt_err (zs := zs) (a := a) (e := 1) (by have := hn.out; omega) (by rw [hsc.out, List.drop_eq_nil_of_le (by have := hn.out; omega)]; rfl) (by decide))
      clear hs hsc
      go_wp2
      go_ret3
      exact ⟨by rw [H.out]; rfl, rfl⟩
end Go.Proofs.YtlcmcmocjbeocaaGreatDoor
end

section
/-
  The reference's reader of a target's bytes (chapter 11): block g is a reader; the contracts of word and number. Conditions: from 1 to 2^20 bytes; a limit is at most 2^31 - 1.
-/
namespace Go.Proofs.YtlcmcmocjbeocaaGreatDoor
open Go.RowKit

/-- Block g is a reader at place k; the bytes lie below g. -/
structure RsAt (w : World) (g b off n c : Nat) (zs : List Int) (k : Nat) (ok : Bool) : Prop where
  row : Row w g 109 [.slice (some ⟨b, off, none⟩) n c, .int .i64 (k : Int), .bool ok]
  see : Sees w g (some ⟨b, off, none⟩) (cellsU8 zs)
/-- What a reader's place and flag stand for. -/
def SoAt (zs : List Int) (k n : Nat) (ok : Bool) (S : Rd Unit) : Prop := k ≤ n ∧ match S with
  | .ok _ l => ok = true ∧ zs.drop k = l
  | .no _ => ok = false
def RsSt (w : World) (g b off n c : Nat) (zs : List Int) (S : Rd Unit) : Prop := ∃ (k : Nat) (ok : Bool), RsAt w g b off n c zs k ok ∧ SoAt zs k n ok S
/-- The reader has turned to S, the call returned v; all else is as it was. -/
def SPost (g b off n c : Nat) (zs : List Int) (S : Rd Unit) (v : Value) (w : World) (e : Ending) (w' : World) : Prop := e = .returned v ∧ RsSt w' g b off n c zs S ∧ w.grownBy w' (some g)

section
variable {w w' : World} {g b off n c k : Nat} {zs : List Int} {ok : Bool} {S : Rd Unit}
theorem RsSt.lt (h : RsSt w g b off n c zs S) : g < w.heap.size := by
  obtain ⟨k, e, r, _⟩ := h
  exact r.row.lt
theorem RsAt.kept {row : Option Nat} (h : RsAt w g b off n c zs k ok) (hg : w.grownBy w' row) (hr : ∀ k, row = some k → g < k) : RsAt w' g b off n c zs k ok := by
  have hl := h.row.lt
  refine ⟨h.row.grown hg (fun e => ?_), h.see.keep fun p hp => ?_⟩
  · have := hr g e.symm
    omega
  · exact World.cell?_of_block (hg.block p.block (by omega) (fun e => by have := hr p.block e.symm; omega))
theorem RsSt.kept {row : Option Nat} (h : RsSt w g b off n c zs S) (hg : w.grownBy w' row) (hr : ∀ k, row = some k → g < k) : RsSt w' g b off n c zs S := by
  obtain ⟨k, e, r, s⟩ := h
  exact ⟨k, e, r.kept hg hr, s⟩
theorem RsSt.below (h : RsSt w g b off n c zs S) (hb : Below w.heap.size w w') : RsSt w' g b off n c zs S := h.kept (grown_below hb none) (fun k e => by cases e)
theorem RsSt.alloc (h : RsSt w g b off n c zs S) (o : Obj) : RsSt (w.alloc o) g b off n c zs S := h.below (below1 w o)
theorem RsSt.drewN (h : RsSt w g b off n c zs S) (m : Nat) : RsSt (w.drewN m) g b off n c zs S := by
  obtain ⟨k, e, r, s⟩ := h
  exact ⟨k, e, ⟨r.row.drewN m, r.see.draws m⟩, s⟩
theorem RsAt.set_at (h : RsAt w g b off n c zs k ok) (k' : Nat) : RsAt (w.setCell ⟨g, 1, none⟩ (.int .i64 (k' : Int))) g b off n c zs k' ok :=
  ⟨h.row.set_ 1 _, h.see.keep fun p hp => World.cell?_setCell_other _ _ _ _ (fun e => by subst e; simp at hp)⟩
theorem RsAt.set_ok (h : RsAt w g b off n c zs k ok) (ok' : Bool) : RsAt (w.setCell ⟨g, 2, none⟩ (.bool ok')) g b off n c zs k ok' :=
  ⟨h.row.set_ 2 _, h.see.keep fun p hp => World.cell?_setCell_other _ _ _ _ (fun e => by subst e; simp at hp)⟩
theorem RsSt.byt {l : List Int} (h : RsSt w g b off n c zs (.ok () l)) (hz : Src n c zs) : Byt l := by
  obtain ⟨k, e, _, _, _, hs⟩ := h
  rw [← hs]
  exact hz.byt.drop k
end

set_option maxRecDepth 100000 in
set_option maxHeartbeats 800000 in
theorem sword_any (g b off n c : Nat) (zs : List Int) (S : Rd Unit) (w : World) (hz : Hid (Src n c zs)) (h : Hid (RsSt w g b off n c zs S)) :
    Calls Tryz.prog 79 #[.pointer (some ⟨g, 0, none⟩)] w (SPost g b off n c zs (S.to wordR).st (.int .u64 (((S.to wordR).val 0 : Nat) : Int)) w) := by
  obtain ⟨k, ok, r, s⟩ := h.out
  have hr := hide r
  have c0 := r.row.cell (k := 0) rfl
  have c1 := r.row.cell (k := 1) rfl
  have c2 := r.row.cell (k := 2) rfl
  have z1 := r.row.free 1
  have z2 := r.row.free 2
  have hsee := hide r.see
  obtain ⟨hke, hs⟩ := s
  have hnc := hz.out.nc
  have hcm := hz.out.cm
  have hmost := hz.out.most
  have hlen := hz.out.len
  have cu : ∀ q, Calls Tryz.prog 113 #[.slice (some ⟨b, off, none⟩) n c, .int .i64 (k : Int)] (w.drewN q) (UintPost zs k (w.drewN q)) := fun q => refuint_in (some ⟨b, off, none⟩) n c zs k g (w.drewN q) (hide hlen) (by omega) (hsee.out.draws q) (hide hz.out.byt) hke
  cases S with
  | no y =>
    obtain rfl : ok = false := hs
    obtain ⟨v, nx, er, hU⟩ : ∃ v nx er, uintVal (uintAt zs k) = .tuple #[.int .u64 v, .int .i64 nx, .int .i64 er] := ⟨_, _, _, rfl⟩
    have cv : ∀ q, Calls Tryz.prog 113 #[.slice (some ⟨b, off, none⟩) n c, .int .i64 (k : Int)] (w.drewN q) (fun e w'' => e = .returned (.tuple #[.int .u64 v, .int .i64 nx, .int .i64 er]) ∧ ∃ i, w'' = w.drewN i) := fun q => (cu q).mono fun e w'' he => ⟨by rw [he.1, hU], by have h2 := he.2; exact ⟨q, by rw [h2]⟩⟩
    clear r hU cu
    go_enter Tryz.func79, Tryz.ntmps79
    go_wp2_with fail
    go_quiet (exact cv _)
    go_wp2
    go_ret
    exact ⟨rfl, ⟨k, false, RsAt.set_ok (w := w.drewN nq) (ok := false) ⟨hr.out.row.drewN _, hsee.out.draws _⟩ false, hke, rfl⟩, grown_set (grown_draws (World.grownBy.refl w _) _) 2 _⟩
  | ok u l =>
    obtain ⟨rfl, hl⟩ := hs
    have hlb : Byt l := by rw [← hl]; exact hz.out.byt.drop k
    clear r
    rcases hm : wordR l with x | ⟨v, r⟩
    · obtain ⟨m, rfl, hm0, hm2, hsc⟩ := wordR_scan_no hm
      have hU := uintAt_err (zs := zs) (a := k) (e := m) (by omega) (by rw [hl]; exact hsc) hm0
      have cv : ∀ q, Calls Tryz.prog 113 #[.slice (some ⟨b, off, none⟩) n c, .int .i64 (k : Int)] (w.drewN q) (fun e w'' => e = .returned (.tuple #[.int .u64 0, .int .i64 0, .int .i64 (m : Int)]) ∧ ∃ i, w'' = w.drewN i) := fun q => (cu q).mono fun e w'' he => ⟨by rw [he.1, hU]; rfl, by have h2 := he.2; exact ⟨q, by rw [h2]⟩⟩
      have hne : ((m : Int) == 0) = false := by rw [beq_eq_false_iff_ne]; omega
      have M := hide hm
      clear hU cu hsc hlb hl hm
      go_enter Tryz.func79, Tryz.ntmps79
      go_wp2_with fail
      go_quiet (exact cv _)
      go_wp2
      go_ret
      refine ⟨?_, ?_, ?_⟩
      · simp only [Rd.to, Rd.and_ok, M.out, Rd.val]; rfl
      · simp only [Rd.to, Rd.and_ok, M.out, Rd.st, Rd.and_no]
        exact ⟨k, false, RsAt.set_ok (w := w.drewN nq) (ok := true) ⟨hr.out.row.drewN _, hsee.out.draws _⟩ false, hke, rfl⟩
      · exact grown_set (grown_draws (World.grownBy.refl w _) _) 2 _
    · obtain ⟨j, hsc, hrj⟩ := wordR_scan hm
      have hU := uintAt_ok (zs := zs) (a := k) (v := v) (e := j) (by omega) (by rw [hl]; exact hsc)
      have hle : v ≤ 18446744073709551615 := (wordR_ok hlb hm).2
      have hjl : k + j ≤ n := by
        obtain ⟨u, _, he, _, hl2, _⟩ := scan_ok l 0 0 v j hlb hsc
        have : l.length = n - k := by rw [← hl, List.length_drop, hlen]
        omega
      have cv : ∀ q, Calls Tryz.prog 113 #[.slice (some ⟨b, off, none⟩) n c, .int .i64 (k : Int)] (w.drewN q) (fun e w'' => e = .returned (.tuple #[.int .u64 (v : Int), .int .i64 ((k : Int) + (j : Int)), .int .i64 0]) ∧ ∃ i, w'' = w.drewN i) := fun q => (cu q).mono fun e w'' he => ⟨by rw [he.1, hU]; rfl, by have h2 := he.2; exact ⟨q, by rw [h2]⟩⟩
      have M := hide hm
      have Hl := hide hl
      have Hrj := hide hrj
      clear hU cu hsc hlb hl hm hrj
      go_enter Tryz.func79, Tryz.ntmps79
      go_wp2_with fail
      go_quiet (exact cv _)
      go_wp2
      go_ret
      refine ⟨?_, ?_, ?_⟩
      · simp only [Rd.to, Rd.and_ok, M.out, Rd.val]
        rfl
      · rw [show ((Rd.ok u l : Rd Unit).to wordR) = .ok v r from M.out]
        refine ⟨k + j, true, ?_, hjl, rfl, by rw [Hrj.out, ← Hl.out, List.drop_drop]⟩
        have := (RsAt.set_at (w := (w.drewN nq).setCell ⟨g, 2, none⟩ (.bool true)) (k := k) (ok := true) (RsAt.set_ok (w := w.drewN nq) (ok := true) ⟨hr.out.row.drewN _, hsee.out.draws _⟩ true) (k + j))
        simpa using this
      · exact grown_set (grown_set (grown_draws (World.grownBy.refl w _) _) 2 _) 1 _

theorem sword_val {n c : Nat} {zs : List Int} {w : World} {g b off : Nat} {S : Rd Unit} (hz : Src n c zs) (h : RsSt w g b off n c zs S) : (S.to wordR).val 0 ≤ 18446744073709551615 := by
  obtain ⟨k, e, _, _, hs⟩ := h
  cases S with
  | no y => exact Nat.zero_le _
  | ok u l =>
    show (wordR l).val 0 ≤ _
    cases hm : wordR l with
    | no x => exact Nat.zero_le _
    | ok v r => exact (wordR_ok (by rw [← hs.2]; exact hz.byt.drop k) hm).2
theorem lim_val {S : Rd Unit} {most : Nat} : (S.to (limR most)).val 0 ≤ most := by
  cases S with
  | no y => exact Nat.zero_le _
  | ok u l =>
    show (limR most l).val 0 ≤ _
    cases hm : limR most l with
    | no x => exact Nat.zero_le _
    | ok v r => exact (limR_word hm).2

set_option maxHeartbeats 400000 in
theorem snum_any (g b off n c most : Nat) (zs : List Int) (S : Rd Unit) (w : World) (hz : Hid (Src n c zs)) (h : Hid (RsSt w g b off n c zs S)) (hmost : most ≤ 2147483647) :
    Calls Tryz.prog 48 #[.pointer (some ⟨g, 0, none⟩), .int .i64 (most : Int)] w (SPost g b off n c zs (S.to (limR most)).st (.int .i64 (((S.to (limR most)).val 0 : Nat) : Int)) w) := by
  have hv := sword_val hz.out h.out
  have cw := sword_any g b off n c zs S w hz h
  have E : S.to (limR most) = (S.to wordR).and fun v r => if most < v then .no 2 else .ok v r := Rd.to_and S wordR _
  have hwm : IntKind.u64.wrap (most : Int) = (most : Int) := by simp [IntKind.wrap, IntKind.bits, IntKind.signed]; omega
  rw [E]
  generalize S.to wordR = M at hv cw ⊢
  clear E
  cases M with
  | no x =>
    go_enter Tryz.func48, Tryz.ntmps48
    go_wp2_with fail
    refine cw.mono ?_
    rintro e w' ⟨rfl, hR, hG⟩
    have HR := hide hR
    have HG := hide hG
    clear hR hG cw
    have ev : ((Rd.no x : Rd Nat).val 0 : Nat) = 0 := rfl
    have hmz : (0 : Int) ≤ (most : Int) := by omega
    rw [ev]
    go_wp2
    go_ret
    exact ⟨rfl, HR.out, HG.out⟩
  | ok v r =>
    have hv' : v ≤ 18446744073709551615 := hv
    by_cases hlt : most < v
    · go_enter Tryz.func48, Tryz.ntmps48
      go_wp2_with fail
      refine cw.mono ?_
      rintro e w' ⟨rfl, hR, hG⟩
      obtain ⟨k, ok, hr, hke, hs⟩ := hR
      have HR := hide hr
      have HG := hide hG
      have r2 := hr.row.free 2
      have c2 := hr.row.cell (k := 2) rfl
      clear hG cw hr
      have ev : ((Rd.ok v r : Rd Nat).val 0 : Nat) = v := rfl
      rw [ev]
      have hlz : (most : Int) < (v : Int) := by omega
      have e2 : ((Rd.ok v r : Rd Nat).and fun v r => if most < v then (.no 2 : Rd Nat) else .ok v r) = .no 2 := by rw [Rd.and_ok, if_pos hlt]
      have E2 := hide e2
      clear e2
      go_wp2
      go_ret
      rw [E2.out]
      exact ⟨rfl, ⟨k, false, HR.out.set_ok false, hke, rfl⟩, grown_set HG.out 2 _⟩
    · go_enter Tryz.func48, Tryz.ntmps48
      go_wp2_with fail
      refine cw.mono ?_
      rintro e w' ⟨rfl, hR, hG⟩
      have HR := hide hR
      have HG := hide hG
      clear hR hG cw
      have ev : ((Rd.ok v r : Rd Nat).val 0 : Nat) = v := rfl
      rw [ev]
      have hlz : (v : Int) ≤ (most : Int) := by omega
      have hiv : IntKind.i64.wrap (v : Int) = (v : Int) := by rw [IntKind.wrap_i64]; omega
      have e2 : ((Rd.ok v r : Rd Nat).and fun v r => if most < v then (.no 2 : Rd Nat) else .ok v r) = .ok v r := by rw [Rd.and_ok, if_neg hlt]
      have E2 := hide e2
      clear e2
      go_wp2
      go_ret
      rw [E2.out]
      exact ⟨rfl, HR.out, HG.out⟩
end Go.Proofs.YtlcmcmocjbeocaaGreatDoor
end

section
/-
  A target instruction's error in the order in which the reference looks for it. No function of the program is named here.
-/
namespace Go.Proofs.YtlcmcmocjbeocaaGreatDoor
open Go.RowKit

/-- Which operands an operation of the target uses. -/
def muA (o : Int) : Bool := !decide ((mshpOf o).1 = 0)
def muB (o : Int) : Bool := !decide ((mshpOf o).2.1 = 0)
def muC (o : Int) : Bool := !decide ((mshpOf o).2.2.1 = 0)
def muI (o : Int) : Bool := (mshpOf o).2.2.2
def memB (o : Int) : Bool := decide (o = 15) || decide (o = 16) || decide (o = 17)
/-- A register or a function that there is. -/
def okM (N k n : Int) : Bool := if k = 1 then withB n 8 else if k = 4 then withB n N else true
def namB (N : Int) (x : Ins) : Bool := okM N (mshpOf x.op).1 x.a && (okM N (mshpOf x.op).2.1 x.b && okM N (mshpOf x.op).2.2.1 x.c)
/-- An operand that is not used is not 0. -/
def fmtB (x : Ins) : Bool := (!muA x.op && x.a != 0) || ((!muB x.op && x.b != 0) || ((!muC x.op && x.c != 0) || (!muI x.op && x.imm != 0)))
def tarB (C : Int) (x : Ins) : Bool := (decide (x.op = 20) && !withB x.a C) || (decide (x.op = 21) && !withB x.b C)

theorem mop_two {N C k n : Int} : mopE N C k n = 2 ↔ k = 0 ∧ n ≠ 0 := by
  unfold mopE; (repeat' split) <;> simp_all
theorem mop_four {N C k n : Int} (hk : 0 ≤ k ∧ k ≤ 5) : mopE N C k n = 4 ↔ okM N k n = false := by
  unfold mopE okM; (repeat' split) <;> simp_all
theorem mop_five {N C k n : Int} : mopE N C k n = 5 ↔ k = 3 ∧ szB n = false := by
  unfold mopE; (repeat' split) <;> simp_all
theorem mop_six {N C k n : Int} : mopE N C k n = 6 ↔ k = 5 ∧ withB n C = false := by
  unfold mopE; (repeat' split) <;> simp_all
theorem mkinds (o : Int) (h0 : 0 ≤ o) (h1 : o < 25) : (0 ≤ (mshpOf o).1 ∧ (mshpOf o).1 ≤ 5) ∧ (0 ≤ (mshpOf o).2.1 ∧ (mshpOf o).2.1 ≤ 5) ∧ (0 ≤ (mshpOf o).2.2.1 ∧ (mshpOf o).2.2.1 ≤ 5) ∧ ((mshpOf o).1 = 5 ↔ o = 20) ∧ ((mshpOf o).2.1 = 5 ↔ o = 21) ∧ (mshpOf o).2.2.1 ≠ 5 ∧ (mshpOf o).1 ≠ 3 ∧ (mshpOf o).2.1 ≠ 3 ∧ ((mshpOf o).2.2.1 = 3 ↔ memB o = true) := by
  have e : ∀ k : Fin 25, (0 ≤ (mshpOf (k.val : Int)).1 ∧ (mshpOf (k.val : Int)).1 ≤ 5) ∧ (0 ≤ (mshpOf (k.val : Int)).2.1 ∧ (mshpOf (k.val : Int)).2.1 ≤ 5) ∧ (0 ≤ (mshpOf (k.val : Int)).2.2.1 ∧ (mshpOf (k.val : Int)).2.2.1 ≤ 5) ∧ ((mshpOf (k.val : Int)).1 = 5 ↔ (k.val : Int) = 20) ∧ ((mshpOf (k.val : Int)).2.1 = 5 ↔ (k.val : Int) = 21) ∧ (mshpOf (k.val : Int)).2.2.1 ≠ 5 ∧ (mshpOf (k.val : Int)).1 ≠ 3 ∧ (mshpOf (k.val : Int)).2.1 ≠ 3 ∧ ((mshpOf (k.val : Int)).2.2.1 = 3 ↔ memB (k.val : Int) = true) := by decide
  have := e ⟨o.toNat, by omega⟩
  simp only at this
  rwa [Int.toNat_of_nonneg h0] at this
theorem insB_zero {n : Int} (h : 0 ≤ n) : insB 0 0 n = true := by
  have hr : rightB 0 0 = true := by decide
  unfold insB; rw [hr]; simpa using h
theorem cov_no {P S : Int} {x : Ins} (hP : 0 ≤ P) (hS : 0 ≤ S) : covB P S x = false ↔ (rdB x.op && !insB (rdI x).1 (rdI x).2 (S + 16 * P)) = true ∨ (wrB x.op && !insB (wrI x).1 (wrI x).2 S) = true := by
  unfold covB
  have h1 : rdB x.op = false → insB (rdI x).1 (rdI x).2 (S + 16 * P) = true := fun h => by
    rw [show rdI x = (0, 0) by unfold rdI; simp [h]]; exact insB_zero (by omega)
  have h2 : wrB x.op = false → insB (wrI x).1 (wrI x).2 S = true := fun h => by
    rw [show wrI x = (0, 0) by unfold wrI; simp [h]]; exact insB_zero hS
  cases hr : rdB x.op <;> cases hw : wrB x.op <;> cases hi : insB (rdI x).1 (rdI x).2 (S + 16 * P) <;> cases hj : insB (wrI x).1 (wrI x).2 S <;> simp_all
/-- The reference's order. -/
theorem mins_order {N : Nat} {f : Fm} {x : Ins} (he : exB x.op = true) (hP : 0 ≤ f.params) (hS : 0 ≤ f.size) :
    minsE N f x = if fmtB x = true then 2 else if namB N x = false then 4 else if (memB x.op && !szB x.c) = true then 5 else if (rdB x.op && !insB (rdI x).1 (rdI x).2 (f.size + 16 * f.params)) = true then 4 else if (wrB x.op && !insB (wrI x).1 (wrI x).2 f.size) = true then 4 else if tarB f.code.length x = true then 6 else 0 := by
  have ho : 0 ≤ x.op ∧ x.op < 25 := by
    unfold exB at he
    simp only [Bool.and_eq_true] at he
    exact withB_true.1 he.1
  obtain ⟨k1, k2, k3, t1, t2, t3, s1, s2, s3⟩ := mkinds x.op ho.1 ho.2
  unfold minsE
  rw [if_neg (by simp [he])]
  unfold mfound
  rw [mrank_order (mopE_cases _ _ _ _) (mopE_cases _ _ _ _) (mopE_cases _ _ _ _)]
  have c2 : (mopE N f.code.length (mshpOf x.op).1 x.a = 2 ∨ mopE N f.code.length (mshpOf x.op).2.1 x.b = 2 ∨ mopE N f.code.length (mshpOf x.op).2.2.1 x.c = 2 ∨ ((mshpOf x.op).2.2.2 = false ∧ x.imm ≠ 0)) ↔ fmtB x = true := by
    rw [mop_two, mop_two, mop_two]; unfold fmtB muA muB muC muI; simp
  have c4 : (mopE N f.code.length (mshpOf x.op).1 x.a = 4 ∨ mopE N f.code.length (mshpOf x.op).2.1 x.b = 4 ∨ mopE N f.code.length (mshpOf x.op).2.2.1 x.c = 4) ↔ namB N x = false := by
    rw [mop_four k1, mop_four k2, mop_four k3]; unfold namB
    cases okM N (mshpOf x.op).1 x.a <;> cases okM N (mshpOf x.op).2.1 x.b <;> cases okM N (mshpOf x.op).2.2.1 x.c <;> simp
  have c5 : (mopE N f.code.length (mshpOf x.op).1 x.a = 5 ∨ mopE N f.code.length (mshpOf x.op).2.1 x.b = 5 ∨ mopE N f.code.length (mshpOf x.op).2.2.1 x.c = 5) ↔ (memB x.op && !szB x.c) = true := by
    rw [mop_five, mop_five, mop_five, s3]
    constructor
    · rintro (h | h | h)
      · exact absurd h.1 s1
      · exact absurd h.1 s2
      · simp [h.1, h.2]
    · intro h
      simp only [Bool.and_eq_true, Bool.not_eq_true'] at h
      exact .inr (.inr h)
  have c6 : (mopE N f.code.length (mshpOf x.op).1 x.a = 6 ∨ mopE N f.code.length (mshpOf x.op).2.1 x.b = 6 ∨ mopE N f.code.length (mshpOf x.op).2.2.1 x.c = 6) ↔ tarB f.code.length x = true := by
    rw [mop_six, mop_six, mop_six, t1, t2]
    unfold tarB
    constructor
    · rintro (h | h | h)
      · simp [h.1, h.2]
      · simp [h.1, h.2]
      · exact absurd h.1 t3
    · intro h
      simp only [Bool.or_eq_true, Bool.and_eq_true, decide_eq_true_eq, Bool.not_eq_true'] at h
      rcases h with h | h
      · exact .inl h
      · exact .inr (.inl h)
  have cv := cov_no (x := x) hP hS
  by_cases h2 : fmtB x = true
  · rw [if_pos (c2.2 h2), if_pos h2]
  · rw [if_neg (fun h => h2 (c2.1 h)), if_neg h2]
    by_cases h4 : namB N x = false
    · rw [if_pos (c4.2 h4), if_pos h4]
    · rw [if_neg (fun h => h4 (c4.1 h)), if_neg h4]
      by_cases h5 : (memB x.op && !szB x.c) = true
      · rw [if_pos (c5.2 h5), if_pos h5]
      · rw [if_neg (fun h => h5 (c5.1 h)), if_neg h5]
        by_cases hr : (rdB x.op && !insB (rdI x).1 (rdI x).2 (f.size + 16 * f.params)) = true
        · rw [if_pos (cv.2 (.inl hr)), if_pos hr]
        · rw [if_neg hr]
          by_cases hw : (wrB x.op && !insB (wrI x).1 (wrI x).2 f.size) = true
          · rw [if_pos (cv.2 (.inr hw)), if_pos hw]
          · rw [if_neg (fun h => (cv.1 h).elim hr hw), if_neg hw]
            by_cases h6 : tarB f.code.length x = true
            · rw [if_pos (c6.2 h6), if_pos h6]
            · rw [if_neg (fun h => h6 (c6.1 h)), if_neg h6]
end Go.Proofs.YtlcmcmocjbeocaaGreatDoor
end
