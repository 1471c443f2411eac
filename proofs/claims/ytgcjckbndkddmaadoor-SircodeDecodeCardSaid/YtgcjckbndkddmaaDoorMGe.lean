import Derived.Test.YtgcjckbndkddmaaDoorMGd
import Derived.Test.YtgcjckbndkddmaaDoorMGb
import Derived.Test.YtgcjckbndkddmaaDoorMGc
import Derived.Maps.Range
set_option linter.unusedVariables false
set_option linter.unusedSimpArgs false
section
/-
  The reader of the reference: block g is a reader of bytes; the contracts of fail, word, number, count. Conditions: from 1 to 2^20 bytes; a count's bound is at most 2^31 - 1.
-/
namespace Go.Proofs.YtgcjckbndkddmaaDoor
open Go.RowKit

/-- The bytes that are read. -/
structure Src (n c : Nat) (zs : List Int) : Prop where
  len : zs.length = n
  nc : n ≤ c
  cm : c ≤ 9223372036854775807
  most : n ≤ 1048576
  byt : Byt zs
/-- Block g is a reader at place k, up to en, with the error e; the bytes lie below g. -/
structure RdAt (w : World) (g b off n c : Nat) (zs : List Int) (k en : Nat) (e : Int) : Prop where
  row : Row w g 95 [.slice (some ⟨b, off, none⟩) n c, .int .i64 (k : Int), .int .i64 (en : Int), .int .i64 e]
  see : Sees w g (some ⟨b, off, none⟩) (cellsU8 zs)
/-- What a reader's place and error stand for. -/
def StAt (zs : List Int) (k en : Nat) (e : Int) (S : Rd Unit) : Prop := k ≤ en ∧ match S with
  | .ok _ l => e = 0 ∧ (zs.take en).drop k = l
  | .no x => e = x ∧ 1 ≤ x ∧ x ≤ 4
def RdSt (w : World) (g b off n c : Nat) (zs : List Int) (en : Nat) (S : Rd Unit) : Prop := ∃ (k : Nat) (e : Int), RdAt w g b off n c zs k en e ∧ StAt zs k en e S
def Rd.to {α : Type} (S : Rd Unit) (p : List Int → Rd α) : Rd α := S.and fun _ l => p l
def Rd.st {α : Type} (m : Rd α) : Rd Unit := m.and fun _ r => .ok () r
def Rd.val {α : Type} (d : α) (m : Rd α) : α := match m with
  | .no _ => d
  | .ok a _ => a
/-- The reader has turned to S, the call returned v; all else is as it was. -/
def RPost (g b off n c : Nat) (zs : List Int) (en : Nat) (S : Rd Unit) (v : Value) (w : World) (e : Ending) (w' : World) : Prop := e = .returned v ∧ RdSt w' g b off n c zs en S ∧ w.grownBy w' (some g)

section
variable {w w' : World} {g b off n c en k : Nat} {zs : List Int} {e : Int} {S : Rd Unit}
theorem RdAt.lt (h : RdAt w g b off n c zs k en e) : g < w.heap.size := h.row.lt
theorem RdSt.lt (h : RdSt w g b off n c zs en S) : g < w.heap.size := by
  obtain ⟨k, e, r, _⟩ := h
  exact r.lt
theorem RdAt.kept {row : Option Nat} (h : RdAt w g b off n c zs k en e) (hg : w.grownBy w' row) (hr : ∀ k, row = some k → g < k) : RdAt w' g b off n c zs k en e := by
  have hl := h.lt
  refine ⟨h.row.grown hg (fun e => ?_), h.see.keep fun p hp => ?_⟩
  · have := hr g e.symm
    omega
  · exact World.cell?_of_block (hg.block p.block (by omega) (fun e => by have := hr p.block e.symm; omega))
theorem RdSt.kept {row : Option Nat} (h : RdSt w g b off n c zs en S) (hg : w.grownBy w' row) (hr : ∀ k, row = some k → g < k) : RdSt w' g b off n c zs en S := by
  obtain ⟨k, e, r, s⟩ := h
  exact ⟨k, e, r.kept hg hr, s⟩
theorem RdSt.below (h : RdSt w g b off n c zs en S) (hb : Below w.heap.size w w') : RdSt w' g b off n c zs en S := h.kept (grown_below hb none) (fun k e => by cases e)
theorem RdSt.alloc (h : RdSt w g b off n c zs en S) (o : Obj) : RdSt (w.alloc o) g b off n c zs en S := h.below (below1 w o)
theorem RdSt.drewN (h : RdSt w g b off n c zs en S) (m : Nat) : RdSt (w.drewN m) g b off n c zs en S := by
  obtain ⟨k, e, r, s⟩ := h
  exact ⟨k, e, ⟨r.row.drewN m, r.see.draws m⟩, s⟩
/-- A field of the reader has turned. -/
theorem RdAt.set_at (h : RdAt w g b off n c zs k en e) (k' : Nat) : RdAt (w.setCell ⟨g, 1, none⟩ (.int .i64 (k' : Int))) g b off n c zs k' en e :=
  ⟨h.row.set_ 1 _, h.see.keep fun p hp => World.cell?_setCell_other _ _ _ _ (fun e => by subst e; simp at hp)⟩
theorem RdAt.set_en (h : RdAt w g b off n c zs k en e) (en' : Nat) : RdAt (w.setCell ⟨g, 2, none⟩ (.int .i64 (en' : Int))) g b off n c zs k en' e :=
  ⟨h.row.set_ 2 _, h.see.keep fun p hp => World.cell?_setCell_other _ _ _ _ (fun e => by subst e; simp at hp)⟩
theorem RdAt.set_e (h : RdAt w g b off n c zs k en e) (e' : Int) : RdAt (w.setCell ⟨g, 3, none⟩ (.int .i64 e')) g b off n c zs k en e' :=
  ⟨h.row.set_ 3 _, h.see.keep fun p hp => World.cell?_setCell_other _ _ _ _ (fun e => by subst e; simp at hp)⟩
end

set_option maxHeartbeats 400000 in
theorem fail_any (g b off n c en : Nat) (zs : List Int) (S : Rd Unit) (x : Int) (w : World) (h : Hid (RdSt w g b off n c zs en S)) (hx : 1 ≤ x ∧ x ≤ 4) :
    Calls Tryd.prog 68 #[.pointer (some ⟨g, 0, none⟩), .int .i64 x] w (RPost g b off n c zs en (S.to fun _ => (.no x : Rd Unit)) (.tuple #[]) w) := by
  obtain ⟨k, e, r, s⟩ := h.out
  have hr := hide r
  have c3 := r.row.cell (k := 3) rfl
  have z3 := r.row.free 3
  obtain ⟨hke, hs⟩ := s
  cases S with
  | no y =>
    obtain ⟨rfl, hy⟩ := hs
    have hne : (e == 0) = false := by rw [beq_eq_false_iff_ne]; omega
    clear r
    go_enter Tryd.func68, Tryd.ntmps68
    go_wp2
    go_end0
    exact ⟨rfl, ⟨k, e, hr.out, hke, rfl, hy⟩, World.grownBy.refl w _⟩
  | ok u l =>
    obtain ⟨rfl, hl⟩ := hs
    clear r
    go_enter Tryd.func68, Tryd.ntmps68
    go_wp2
    go_end0
    exact ⟨rfl, ⟨k, x, hr.out.set_e x, hke, rfl, hx⟩, grown_set (World.grownBy.refl w _) 3 _⟩

theorem scan_none (l : List Int) : ∀ i v : Nat, (scan l i v).2.2 ≠ 0 → scan l i v = (0, 0, (scan l i v).2.2) := by
  induction l with
  | nil => intro i v _; rfl
  | cons z r ih =>
    intro i v h
    rw [scan] at h ⊢
    split at h
    · rename_i h1
      rw [if_pos h1]
    · rename_i h1
      rw [if_neg h1]
      split at h
      · rename_i h2
        rw [if_pos h2]
        exact ih _ _ h
      · rename_i h2
        rw [if_neg h2]
        split at h
        · rename_i h3
          rw [if_pos h3]
        · exact absurd rfl h
theorem wordR_scan {l r : List Int} {v : Nat} (h : wordR l = .ok v r) : ∃ j, scan l 0 0 = (v, j, 0) ∧ r = l.drop j := by
  unfold wordR at h
  split at h
  · rename_i h0
    injection h with h1 h2
    exact ⟨_, Prod.ext h1 (Prod.ext rfl h0), h2.symm⟩
  · cases h
theorem wordR_scan_no {l : List Int} {e : Int} (h : wordR l = .no e) : ∃ m : Nat, e = m ∧ m ≠ 0 ∧ m ≤ 2 ∧ scan l 0 0 = (0, 0, m) := by
  unfold wordR at h
  split at h
  · cases h
  · rename_i h0
    injection h with h1
    exact ⟨_, h1.symm, h0, scan_err l 0 0, scan_none l 0 0 h0⟩

set_option maxRecDepth 100000 in
set_option maxHeartbeats 800000 in
theorem word_any (g b off n c en : Nat) (zs : List Int) (S : Rd Unit) (w : World) (hz : Hid (Src n c zs)) (h : Hid (RdSt w g b off n c zs en S)) (hen : en ≤ n) :
    Calls Tryd.prog 101 #[.pointer (some ⟨g, 0, none⟩)] w (RPost g b off n c zs en (S.to wordR).st (.int .u64 (((S.to wordR).val 0 : Nat) : Int)) w) := by
  obtain ⟨k, e, r, s⟩ := h.out
  have hr := hide r
  have c0 := r.row.cell (k := 0) rfl
  have c1 := r.row.cell (k := 1) rfl
  have c2 := r.row.cell (k := 2) rfl
  have c3 := r.row.cell (k := 3) rfl
  have z1 := r.row.free 1
  have hsee := hide r.see
  obtain ⟨hke, hs⟩ := s
  have hnc := hz.out.nc
  have hcm := hz.out.cm
  have hmost := hz.out.most
  cases S with
  | no y =>
    obtain ⟨rfl, hy⟩ := hs
    have hne : (e == 0) = false := by rw [beq_eq_false_iff_ne]; omega
    clear r
    go_enter Tryd.func101, Tryd.ntmps101
    go_wp2
    go_ret
    exact ⟨rfl, ⟨k, e, hr.out, hke, rfl, hy⟩, World.grownBy.refl w _⟩
  | ok u l =>
    obtain ⟨rfl, hl⟩ := hs
    have hlen : (zs.take en).length = en := by rw [List.length_take, hz.out.len]; omega
    have cu : ∀ q, Calls Tryd.prog 108 #[.slice (some ⟨b, off, none⟩) en c, .int .i64 (k : Int)] (w.drewN q) (UintPost (zs.take en) k (w.drewN q)) := fun q => refuint_in (some ⟨b, off, none⟩) en c (zs.take en) k g (w.drewN q) (hide hlen) (by omega) (by rw [← take_cells]; exact (hsee.out.draws q).take en) (hide (hz.out.byt.take en)) hke
    have hlb : Byt l := by rw [← hl]; exact (hz.out.byt.take en).drop k
    clear r
    rcases hm : wordR l with x | ⟨v, r⟩
    · obtain ⟨m, rfl, hm0, hm2, hsc⟩ := wordR_scan_no hm
      have hU := uintAt_err (zs := zs.take en) (a := k) (e := m) (by omega) (by rw [hl]; exact hsc) hm0
      have cv : ∀ q, Calls Tryd.prog 108 #[.slice (some ⟨b, off, none⟩) en c, .int .i64 (k : Int)] (w.drewN q) (fun e w'' => e = .returned (.tuple #[.int .u64 0, .int .i64 0, .int .i64 (m : Int)]) ∧ ∃ i, w'' = w.drewN i) := fun q => (cu q).mono fun e w'' he => ⟨by rw [he.1, hU]; rfl, q, he.2.symm⟩
      have hne : ((m : Int) == 0) = false := by rw [beq_eq_false_iff_ne]; omega
      have M := hide hm
      clear hU cu hsc hlb hl hm
      go_enter Tryd.func101, Tryd.ntmps101
      go_wp2_with fail
      go_quiet (exact cv _)
      go_wp2_with fail
      refine (fail_any g b off n c en zs (.ok () l) (m : Int) _ (hide (h.out.drewN _)) (by omega)).mono ?_
      rintro e w' ⟨rfl, hR, hG⟩
      have HR := hide hR
      have HG := hide hG
      clear hR hG
      go_wp2
      go_ret
      refine ⟨?_, ?_, ?_⟩
      · simp only [Rd.to, Rd.and_ok, M.out, Rd.val]; rfl
      · simp only [Rd.to, Rd.and_ok, M.out, Rd.st, Rd.and_no]; exact HR.out
      · exact ⟨HG.out.os, HG.out.tape, HG.out.output, HG.out.size, HG.out.block⟩
    · obtain ⟨j, hsc, hrj⟩ := wordR_scan hm
      have hU := uintAt_ok (zs := zs.take en) (a := k) (v := v) (e := j) (by omega) (by rw [hl]; exact hsc)
      have hle : v ≤ 18446744073709551615 := (wordR_ok hlb hm).2
      have hjl : k + j ≤ en := by
        obtain ⟨u, _, he, _, hl2, _⟩ := scan_ok l 0 0 v j hlb hsc
        have : l.length = en - k := by rw [← hl, List.length_drop, hlen]
        omega
      have cv : ∀ q, Calls Tryd.prog 108 #[.slice (some ⟨b, off, none⟩) en c, .int .i64 (k : Int)] (w.drewN q) (fun e w'' => e = .returned (.tuple #[.int .u64 (v : Int), .int .i64 ((k : Int) + (j : Int)), .int .i64 0]) ∧ ∃ i, w'' = w.drewN i) := fun q => (cu q).mono fun e w'' he => ⟨by rw [he.1, hU]; rfl, q, he.2.symm⟩
      have M := hide hm
      have Hl := hide hl
      have Hrj := hide hrj
      clear hU cu hsc hlb hl hm hrj
      go_enter Tryd.func101, Tryd.ntmps101
      go_wp2_with fail
      go_quiet (exact cv _)
      go_wp2
      go_ret
      refine ⟨?_, ?_, ?_⟩
      · simp only [Rd.to, Rd.and_ok, M.out, Rd.val]
        rfl
      · rw [show ((Rd.ok u l : Rd Unit).to wordR) = .ok v r from M.out]
        refine ⟨k + j, 0, ?_, hjl, rfl, by rw [Hrj.out, ← Hl.out, List.drop_drop]⟩
        have := (RdAt.set_at (w := w.drewN nq) (k := k) (e := 0) ⟨hr.out.row.drewN _, hsee.out.draws _⟩ (k + j))
        simpa using this
      · exact grown_set (grown_draws (World.grownBy.refl w _) _) 1 _

theorem Rd.to_and {α β : Type} (S : Rd Unit) (p : List Int → Rd α) (k : α → List Int → Rd β) : S.to (fun l => (p l).and k) = (S.to p).and k := by
  cases S with
  | no e => rfl
  | ok a r => rfl
theorem Rd.st_to {α β : Type} (m : Rd α) (p : List Int → Rd β) : m.st.to p = m.and fun _ r => p r := by
  cases m with
  | no e => rfl
  | ok a r => rfl
theorem RdSt.bad {w : World} {g b off n c en : Nat} {zs : List Int} {e : Int} (h : RdSt w g b off n c zs en (.no e)) : 1 ≤ e ∧ e ≤ 4 := by
  obtain ⟨_, _, _, _, h1, h2⟩ := h
  exact h2
theorem word_val {n c en : Nat} {zs : List Int} {w : World} {g b off : Nat} {S : Rd Unit} (hz : Src n c zs) (h : RdSt w g b off n c zs en S) : (S.to wordR).val 0 ≤ 18446744073709551615 := by
  obtain ⟨k, e, _, _, hs⟩ := h
  cases S with
  | no y => exact Nat.zero_le _
  | ok u l =>
    show (wordR l).val 0 ≤ _
    cases hm : wordR l with
    | no x => exact Nat.zero_le _
    | ok v r => exact (wordR_ok (by rw [← hs.2]; exact (hz.byt.take en).drop k) hm).2

set_option maxHeartbeats 400000 in
theorem number_any (g b off n c en : Nat) (zs : List Int) (S : Rd Unit) (w : World) (hz : Hid (Src n c zs)) (h : Hid (RdSt w g b off n c zs en S)) (hen : en ≤ n) :
    Calls Tryd.prog 87 #[.pointer (some ⟨g, 0, none⟩)] w (RPost g b off n c zs en (S.to numR).st (.int .i64 (((S.to numR).val 0 : Nat) : Int)) w) := by
  have hv := word_val hz.out h.out
  have cw := word_any g b off n c en zs S w hz h hen
  have E : S.to numR = (S.to wordR).and fun v r => if 2147483647 < v then .no 4 else .ok v r := Rd.to_and S wordR _
  rw [E]
  generalize S.to wordR = M at hv cw ⊢
  clear E
  cases M with
  | no x =>
    go_enter Tryd.func87, Tryd.ntmps87
    go_wp2_with fail
    refine cw.mono ?_
    rintro e w' ⟨rfl, hR, hG⟩
    have HR := hide hR
    have HG := hide hG
    clear hR hG cw
    have ev : ((Rd.no x : Rd Nat).val 0 : Nat) = 0 := rfl
    rw [ev]
    go_wp2
    go_ret
    exact ⟨rfl, HR.out, HG.out⟩
  | ok v r =>
    have hv' : v ≤ 18446744073709551615 := hv
    by_cases hlt : 2147483647 < v
    · go_enter Tryd.func87, Tryd.ntmps87
      go_wp2_with fail
      refine cw.mono ?_
      rintro e w' ⟨rfl, hR, hG⟩
      have HR := hide hR
      have HG := hide hG
      clear hR hG cw
      have ev : ((Rd.ok v r : Rd Nat).val 0 : Nat) = v := rfl
      rw [ev]
      have hlz : (2147483647 : Int) < (v : Int) := by omega
      go_wp2_with fail
      refine (fail_any g b off n c en zs _ 4 _ HR (by omega)).mono ?_
      rintro e w' ⟨rfl, hR, hG⟩
      have HR2 := hide hR
      have HG2 := hide (HG.out.trans hG)
      clear hR hG
      have e2 : ((Rd.ok v r : Rd Nat).and fun v r => if 2147483647 < v then (.no 4 : Rd Nat) else .ok v r) = .no 4 := by rw [Rd.and_ok, if_pos hlt]
      have E2 := hide e2
      clear e2
      go_wp2
      go_ret
      rw [E2.out]
      exact ⟨rfl, HR2.out, HG2.out⟩
    · go_enter Tryd.func87, Tryd.ntmps87
      go_wp2_with fail
      refine cw.mono ?_
      rintro e w' ⟨rfl, hR, hG⟩
      have HR := hide hR
      have HG := hide hG
      clear hR hG cw
      have ev : ((Rd.ok v r : Rd Nat).val 0 : Nat) = v := rfl
      rw [ev]
      have hlz : (v : Int) ≤ 2147483647 := by omega
      have e2 : ((Rd.ok v r : Rd Nat).and fun v r => if 2147483647 < v then (.no 4 : Rd Nat) else .ok v r) = .ok v r := by rw [Rd.and_ok, if_neg hlt]
      have E2 := hide e2
      clear e2
      go_wp2
      go_ret
      rw [E2.out]
      exact ⟨rfl, HR.out, HG.out⟩

theorem number_val {n c en : Nat} {zs : List Int} {w : World} {g b off : Nat} {S : Rd Unit} (hz : Src n c zs) (h : RdSt w g b off n c zs en S) : (S.to numR).val 0 ≤ 2147483647 := by
  obtain ⟨k, e, _, _, hs⟩ := h
  cases S with
  | no y => exact Nat.zero_le _
  | ok u l =>
    show (numR l).val 0 ≤ _
    cases hm : numR l with
    | no x => exact Nat.zero_le _
    | ok v r => exact (numR_ok (by rw [← hs.2]; exact (hz.byt.take en).drop k) hm).2

set_option maxHeartbeats 400000 in
theorem count_any' (g b off n c en most : Nat) (zs : List Int) (S : Rd Unit) (w : World) (hz : Hid (Src n c zs)) (h : Hid (RdSt w g b off n c zs en S)) (hen : en ≤ n) (hmost : most ≤ 100000) :
    Calls Tryd.prog 66 #[.pointer (some ⟨g, 0, none⟩), .int .i64 (most : Int)] w (RPost g b off n c zs en (S.to (countR most)).st (.int .i64 (((S.to (countR most)).val 0 : Nat) : Int)) w) := by
  have hv := number_val hz.out h.out
  have cw := number_any g b off n c en zs S w hz h hen
  have E : S.to (countR most) = (S.to numR).and fun v r => if most < v then .no 3 else .ok v r := Rd.to_and S numR _
  rw [E]
  generalize S.to numR = M at hv cw ⊢
  clear E
  cases M with
  | no x =>
    go_enter Tryd.func66, Tryd.ntmps66
    go_wp2_with fail
    refine cw.mono ?_
    rintro e w' ⟨rfl, hR, hG⟩
    have HR := hide hR
    have HG := hide hG
    clear hR hG cw
    have ev : ((Rd.no x : Rd Nat).val 0 : Nat) = 0 := rfl
    rw [ev]
    go_wp2
    go_ret
    exact ⟨rfl, HR.out, HG.out⟩
  | ok v r =>
    have hv' : v ≤ 2147483647 := hv
    by_cases hlt : most < v
    · go_enter Tryd.func66, Tryd.ntmps66
      go_wp2_with fail
      refine cw.mono ?_
      rintro e w' ⟨rfl, hR, hG⟩
      have HR := hide hR
      have HG := hide hG
      clear hR hG cw
      have ev : ((Rd.ok v r : Rd Nat).val 0 : Nat) = v := rfl
      rw [ev]
      have hlz : (most : Int) < (v : Int) := by omega
      go_wp2_with fail
      refine (fail_any g b off n c en zs _ 3 _ HR (by omega)).mono ?_
      rintro e w' ⟨rfl, hR, hG⟩
      have HR2 := hide hR
      have HG2 := hide (HG.out.trans hG)
      clear hR hG
      have e2 : ((Rd.ok v r : Rd Nat).and fun v r => if most < v then (.no 3 : Rd Nat) else .ok v r) = .no 3 := by rw [Rd.and_ok, if_pos hlt]
      have E2 := hide e2
      clear e2
      go_wp2
      go_ret
      rw [E2.out]
      exact ⟨rfl, HR2.out, HG2.out⟩
    · go_enter Tryd.func66, Tryd.ntmps66
      go_wp2_with fail
      refine cw.mono ?_
      rintro e w' ⟨rfl, hR, hG⟩
      have HR := hide hR
      have HG := hide hG
      clear hR hG cw
      have ev : ((Rd.ok v r : Rd Nat).val 0 : Nat) = v := rfl
      rw [ev]
      have hlz : (v : Int) ≤ (most : Int) := by omega
      have e2 : ((Rd.ok v r : Rd Nat).and fun v r => if most < v then (.no 3 : Rd Nat) else .ok v r) = .ok v r := by rw [Rd.and_ok, if_neg hlt]
      have E2 := hide e2
      clear e2
      go_wp2
      go_ret
      rw [E2.out]
      exact ⟨rfl, HR.out, HG.out⟩
theorem word_no {g b off n c en : Nat} {zs : List Int} {x : Int} {w : World} (hz : Hid (Src n c zs)) (h : Hid (RdSt w g b off n c zs en (.no x))) (hen : en ≤ n) :
    Calls Tryd.prog 101 #[.pointer (some ⟨g, 0, none⟩)] w (RPost g b off n c zs en (.no x) (.int .u64 0) w) :=
  word_any g b off n c en zs (.no x) w hz h hen
theorem word_err {g b off n c en : Nat} {zs l : List Int} {y : Int} {w : World} (hz : Hid (Src n c zs)) (h : Hid (RdSt w g b off n c zs en (.ok () l))) (hm : Hid (wordR l = .no y)) (hen : en ≤ n) :
    Calls Tryd.prog 101 #[.pointer (some ⟨g, 0, none⟩)] w (RPost g b off n c zs en (.no y) (.int .u64 0) w) := by
  have := word_any g b off n c en zs (.ok () l) w hz h hen
  rw [show (Rd.ok () l : Rd Unit).to wordR = .no y from hm.out] at this
  exact this
theorem word_ok {g b off n c en v : Nat} {zs l r : List Int} {w : World} (hz : Hid (Src n c zs)) (h : Hid (RdSt w g b off n c zs en (.ok () l))) (hm : Hid (wordR l = .ok v r)) (hen : en ≤ n) :
    Calls Tryd.prog 101 #[.pointer (some ⟨g, 0, none⟩)] w (RPost g b off n c zs en (.ok () r) (.int .u64 (v : Int)) w) := by
  have := word_any g b off n c en zs (.ok () l) w hz h hen
  rw [show (Rd.ok () l : Rd Unit).to wordR = .ok v r from hm.out] at this
  exact this
theorem number_no {g b off n c en : Nat} {zs : List Int} {x : Int} {w : World} (hz : Hid (Src n c zs)) (h : Hid (RdSt w g b off n c zs en (.no x))) (hen : en ≤ n) :
    Calls Tryd.prog 87 #[.pointer (some ⟨g, 0, none⟩)] w (RPost g b off n c zs en (.no x) (.int .i64 0) w) :=
  number_any g b off n c en zs (.no x) w hz h hen
theorem number_err {g b off n c en : Nat} {zs l : List Int} {y : Int} {w : World} (hz : Hid (Src n c zs)) (h : Hid (RdSt w g b off n c zs en (.ok () l))) (hm : Hid (numR l = .no y)) (hen : en ≤ n) :
    Calls Tryd.prog 87 #[.pointer (some ⟨g, 0, none⟩)] w (RPost g b off n c zs en (.no y) (.int .i64 0) w) := by
  have := number_any g b off n c en zs (.ok () l) w hz h hen
  rw [show (Rd.ok () l : Rd Unit).to numR = .no y from hm.out] at this
  exact this
theorem number_ok {g b off n c en v : Nat} {zs l r : List Int} {w : World} (hz : Hid (Src n c zs)) (h : Hid (RdSt w g b off n c zs en (.ok () l))) (hm : Hid (numR l = .ok v r)) (hen : en ≤ n) :
    Calls Tryd.prog 87 #[.pointer (some ⟨g, 0, none⟩)] w (RPost g b off n c zs en (.ok () r) (.int .i64 (v : Int)) w) := by
  have := number_any g b off n c en zs (.ok () l) w hz h hen
  rw [show (Rd.ok () l : Rd Unit).to numR = .ok v r from hm.out] at this
  exact this
theorem count_no {g b off n c en : Nat} {zs : List Int} {most : Nat} {x : Int} {w : World} (hz : Hid (Src n c zs)) (h : Hid (RdSt w g b off n c zs en (.no x))) (hen : en ≤ n) (hmost : most ≤ 100000) :
    Calls Tryd.prog 66 #[.pointer (some ⟨g, 0, none⟩), .int .i64 (most : Int)] w (RPost g b off n c zs en (.no x) (.int .i64 0) w) :=
  count_any' g b off n c en most zs (.no x) w hz h hen hmost
theorem count_err {g b off n c en : Nat} {zs l : List Int} {most : Nat} {y : Int} {w : World} (hz : Hid (Src n c zs)) (h : Hid (RdSt w g b off n c zs en (.ok () l))) (hm : Hid (countR most l = .no y)) (hen : en ≤ n) (hmost : most ≤ 100000) :
    Calls Tryd.prog 66 #[.pointer (some ⟨g, 0, none⟩), .int .i64 (most : Int)] w (RPost g b off n c zs en (.no y) (.int .i64 0) w) := by
  have := count_any' g b off n c en most zs (.ok () l) w hz h hen hmost
  rw [show (Rd.ok () l : Rd Unit).to (countR most) = .no y from hm.out] at this
  exact this
theorem count_ok {g b off n c en v : Nat} {zs l r : List Int} {most : Nat} {w : World} (hz : Hid (Src n c zs)) (h : Hid (RdSt w g b off n c zs en (.ok () l))) (hm : Hid (countR most l = .ok v r)) (hen : en ≤ n) (hmost : most ≤ 100000) :
    Calls Tryd.prog 66 #[.pointer (some ⟨g, 0, none⟩), .int .i64 (most : Int)] w (RPost g b off n c zs en (.ok () r) (.int .i64 (v : Int)) w) := by
  have := count_any' g b off n c en most zs (.ok () l) w hz h hen hmost
  rw [show (Rd.ok () l : Rd Unit).to (countR most) = .ok v r from hm.out] at this
  exact this
theorem fail_no {g b off n c en : Nat} {zs : List Int} {x y : Int} {w : World} (h : Hid (RdSt w g b off n c zs en (.no y))) (hx : 1 ≤ x ∧ x ≤ 4) :
    Calls Tryd.prog 68 #[.pointer (some ⟨g, 0, none⟩), .int .i64 x] w (RPost g b off n c zs en (.no y) (.tuple #[]) w) := fail_any g b off n c en zs (.no y) x w h hx
theorem fail_ok {g b off n c en : Nat} {zs l : List Int} {x : Int} {w : World} (h : Hid (RdSt w g b off n c zs en (.ok () l))) (hx : 1 ≤ x ∧ x ≤ 4) :
    Calls Tryd.prog 68 #[.pointer (some ⟨g, 0, none⟩), .int .i64 x] w (RPost g b off n c zs en (.no x) (.tuple #[]) w) := fail_any g b off n c en zs (.ok () l) x w h hx
/-- The bytes that are left. -/
theorem RdSt.byt {w : World} {g b off n c en : Nat} {zs l : List Int} (h : RdSt w g b off n c zs en (.ok () l)) (hz : Src n c zs) : Byt l := by
  obtain ⟨k, e, _, _, _, hs⟩ := h
  rw [← hs]
  exact (hz.byt.take en).drop k
end Go.Proofs.YtgcjckbndkddmaaDoor
end

section
/-
  The contracts of the reference's reader: slot, instr. Conditions: from 1 to 2^20 bytes.
-/
namespace Go.Proofs.YtgcjckbndkddmaaDoor
open Go.RowKit

theorem grown_put (w : World) (g k : Nat) (u : Value) : w.grownBy (w.setCell ⟨g, k, none⟩ u) (some g) := grown_set (World.grownBy.refl w _) k u
/-- A reader that has turned to S, since w. -/
structure Kp (w : World) (g b off n c : Nat) (zs : List Int) (en : Nat) (S : Rd Unit) (w' : World) : Prop where
  r : RdSt w' g b off n c zs en S
  g : w.grownBy w' (some g)
section
variable {w w' w'' : World} {g b off n c en : Nat} {zs : List Int} {S T : Rd Unit}
theorem Kp.set {gb : Nat} (h : Kp w g b off n c zs en S w') (hgb : w.heap.size ≤ gb) (hg : g < w.heap.size) (k : Nat) (u : Value) : Kp w g b off n c zs en S (w'.setCell ⟨gb, k, none⟩ u) :=
  ⟨h.r.kept (grown_put w' gb k u) (fun j hj => by injection hj with hj; omega), h.g.andThen (grown_put w' gb k u) (fun j hj => .inl (by injection hj with hj; omega))⟩
theorem Kp.alloc (h : Kp w g b off n c zs en S w') (o : Obj) : Kp w g b off n c zs en S (w'.alloc o) := ⟨h.r.alloc o, h.g.trans (World.grownBy_alloc _ _ _)⟩
theorem Kp.to (h : Kp w g b off n c zs en S w') (hr : RdSt w'' g b off n c zs en T) (hg : w'.grownBy w'' (some g)) : Kp w g b off n c zs en T w'' := ⟨hr, h.g.trans hg⟩
theorem Kp.start (h : RdSt w g b off n c zs en S) : Kp w g b off n c zs en S w := ⟨h, World.grownBy.refl w _⟩
theorem Kp.drewN (h : Kp w g b off n c zs en S w') (m : Nat) : Kp w g b off n c zs en S (w'.drewN m) := ⟨h.r.drewN m, grown_draws h.g m⟩
end

theorem pow_wrap {k : Nat} (hk : k ≤ 24) : wrap64 ((2 : Int) ^ k) = (2 : Int) ^ k := by
  have h1 : ((2 : Int) ^ k) = ((2 ^ k : Nat) : Int) := by simp
  have h2 : 2 ^ k ≤ 2 ^ 24 := Nat.pow_le_pow_right (by omega) hk
  rw [h1]
  obtain ⟨m, hm⟩ : ∃ m, m = 2 ^ k := ⟨_, rfl⟩
  rw [← hm] at h2 ⊢
  unfold wrap64; omega
/-- What a call that reads a pair leaves. -/
def SlPost (g b off n c : Nat) (zs : List Int) (en : Nat) (S : Rd Unit) (w : World) (e : Ending) (w' : World) : Prop :=
  ∃ x y : Int, e = .returned (pv x y) ∧ RdSt w' g b off n c zs en (S.to slR).st ∧ w.grownBy w' (some g) ∧ ∀ s r, S.to slR = .ok s r → (x, y) = s

set_option maxRecDepth 100000 in
set_option maxHeartbeats 1600000 in
theorem rslot_any (g b off n c en : Nat) (zs : List Int) (S : Rd Unit) (w : World) (hz : Hid (Src n c zs)) (h : Hid (RdSt w g b off n c zs en S)) (hen : en ≤ n) :
    Calls Tryd.prog 88 #[.pointer (some ⟨g, 0, none⟩)] w (SlPost g b off n c zs en S w) := by
  have hg := h.out.lt
  have hne : w.heap.size ≠ g := by omega
  cases S with
  | no x =>
    go_enter Tryd.func88, Tryd.ntmps88
    go_wp2_with fail
    refine (number_no (x := x) hz (hide (h.out.alloc _)) hen).mono ?_
    rintro e w1 ⟨rfl, hR1, hG1⟩
    have hrow := hide ((Row.new w 62 [.int .i64 0, .int .i64 0]).grown hG1 (fun e => by injection e with e; omega))
    have K1 := hide (((Kp.start h.out).alloc (.cells #[.int .i64 0, .int .i64 0] 62)).to hR1 hG1)
    clear hR1 hG1
    go_wp2_with fail
    refine (number_no (x := x) hz (hide K1.out.r) hen).mono ?_
    rintro e w2 ⟨rfl, hR2, hG2⟩
    have hrow2 := hide (hrow.out.grown hG2 (fun e => by injection e with e; omega))
    have K2 := hide (K1.out.to hR2 hG2)
    clear hR2 hG2 K1 hrow
    have x0 := hrow2.out.cell (k := 0) rfl
    have x1 := hrow2.out.cell (k := 1) rfl
    have y0 := hrow2.out.free 0
    have y1 := hrow2.out.free 1
    go_wp2
    have hf := (hrow2.out.set_ 0 (.int .i64 0)).set_ 1 (.int .i64 1)
    have f0 := hf.cell (k := 0) rfl
    have f1 := hf.cell (k := 1) rfl
    have KF := (K2.out.set (gb := w.heap.size) (Nat.le_refl _) hg 0 (.int .i64 0)).set (gb := w.heap.size) (Nat.le_refl _) hg 1 (.int .i64 1)
    refine bodyPost_ret (v := pv 0 1) (by simp [results, Tryd.results88, go_sem, f0, f1]) rfl ⟨0, 1, rfl, KF.r, KF.g, ?_⟩
    exact fun s r e => by cases e
  | ok u l =>
    rcases hm1 : numR l with x | ⟨s, r1⟩
    · have e1 : ((Rd.ok u l : Rd Unit).to slR) = .no x := by show slR l = _; unfold slR; rw [hm1]; rfl
      have E1 := hide e1
      have M1 := hide hm1
      clear e1 hm1
      go_enter Tryd.func88, Tryd.ntmps88
      go_wp2_with fail
      refine (number_err (l := l) hz (hide (h.out.alloc _)) M1 hen).mono ?_
      rintro e w1 ⟨rfl, hR1, hG1⟩
      have hrow := hide ((Row.new w 62 [.int .i64 0, .int .i64 0]).grown hG1 (fun e => by injection e with e; omega))
      have K1 := hide (((Kp.start h.out).alloc (.cells #[.int .i64 0, .int .i64 0] 62)).to hR1 hG1)
      clear hR1 hG1
      go_wp2_with fail
      refine (number_no (x := x) hz (hide K1.out.r) hen).mono ?_
      rintro e w2 ⟨rfl, hR2, hG2⟩
      have hrow2 := hide (hrow.out.grown hG2 (fun e => by injection e with e; omega))
      have K2 := hide (K1.out.to hR2 hG2)
      clear hR2 hG2 K1 hrow
      have x0 := hrow2.out.cell (k := 0) rfl
      have x1 := hrow2.out.cell (k := 1) rfl
      have y0 := hrow2.out.free 0
      have y1 := hrow2.out.free 1
      go_wp2
      have hf := (hrow2.out.set_ 0 (.int .i64 0)).set_ 1 (.int .i64 1)
      have f0 := hf.cell (k := 0) rfl
      have f1 := hf.cell (k := 1) rfl
      have KF := (K2.out.set (gb := w.heap.size) (Nat.le_refl _) hg 0 (.int .i64 0)).set (gb := w.heap.size) (Nat.le_refl _) hg 1 (.int .i64 1)
      refine bodyPost_ret (v := pv 0 1) (by simp [results, Tryd.results88, go_sem, f0, f1]) rfl ⟨0, 1, rfl, (by rw [E1.out]; exact KF.r), KF.g, ?_⟩
      rw [E1.out]
      exact fun s r e => by cases e
    · have M1 := hide hm1
      rcases hm2 : numR r1 with x | ⟨k, r2⟩
      · have e1 : ((Rd.ok u l : Rd Unit).to slR) = .no x := by show slR l = _; unfold slR; rw [hm1, Rd.and_ok, hm2]; rfl
        have E1 := hide e1
        have M2 := hide hm2
        clear e1 hm1 hm2
        go_enter Tryd.func88, Tryd.ntmps88
        go_wp2_with fail
        refine (number_ok (l := l) (r := r1) (v := s) hz (hide (h.out.alloc _)) M1 hen).mono ?_
        rintro e w1 ⟨rfl, hR1, hG1⟩
        have hrow := hide ((Row.new w 62 [.int .i64 0, .int .i64 0]).grown hG1 (fun e => by injection e with e; omega))
        have K1 := hide (((Kp.start h.out).alloc (.cells #[.int .i64 0, .int .i64 0] 62)).to hR1 hG1)
        clear hR1 hG1
        go_wp2_with fail
        refine (number_err (l := r1) hz (hide K1.out.r) M2 hen).mono ?_
        rintro e w2 ⟨rfl, hR2, hG2⟩
        have hrow2 := hide (hrow.out.grown hG2 (fun e => by injection e with e; omega))
        have K2 := hide (K1.out.to hR2 hG2)
        clear hR2 hG2 K1 hrow
        have x0 := hrow2.out.cell (k := 0) rfl
        have x1 := hrow2.out.cell (k := 1) rfl
        have y0 := hrow2.out.free 0
        have y1 := hrow2.out.free 1
        go_wp2
        have hf := (hrow2.out.set_ 0 (.int .i64 (s : Int))).set_ 1 (.int .i64 1)
        have f0 := hf.cell (k := 0) rfl
        have f1 := hf.cell (k := 1) rfl
        have KF := (K2.out.set (gb := w.heap.size) (Nat.le_refl _) hg 0 (.int .i64 (s : Int))).set (gb := w.heap.size) (Nat.le_refl _) hg 1 (.int .i64 1)
        refine bodyPost_ret (v := pv (s : Int) 1) (by simp [results, Tryd.results88, go_sem, f0, f1]) rfl ⟨(s : Int), 1, rfl, (by rw [E1.out]; exact KF.r), KF.g, ?_⟩
        rw [E1.out]
        exact fun s r e => by cases e
      · have M2 := hide hm2
        have hb1 : Byt r1 := by have := (numR_ok (h.out.byt hz.out) hm1).1; rw [this] at h; exact (h.out.byt hz.out).right
        by_cases hk : 24 < k
        · have e1 : ((Rd.ok u l : Rd Unit).to slR) = .no 4 := by show slR l = _; unfold slR; rw [hm1, Rd.and_ok, hm2, Rd.and_ok, if_pos hk]
          have E1 := hide e1
          have hkz : (24 : Int) < (k : Int) := by omega
          clear e1 hm1 hm2
          go_enter Tryd.func88, Tryd.ntmps88
          go_wp2_with fail
          refine (number_ok (l := l) (r := r1) (v := s) hz (hide (h.out.alloc _)) M1 hen).mono ?_
          rintro e w1 ⟨rfl, hR1, hG1⟩
          have hrow := hide ((Row.new w 62 [.int .i64 0, .int .i64 0]).grown hG1 (fun e => by injection e with e; omega))
          have K1 := hide (((Kp.start h.out).alloc (.cells #[.int .i64 0, .int .i64 0] 62)).to hR1 hG1)
          clear hR1 hG1
          go_wp2_with fail
          refine (number_ok (l := r1) (r := r2) (v := k) hz (hide K1.out.r) M2 hen).mono ?_
          rintro e w2 ⟨rfl, hR2, hG2⟩
          have hrow2 := hide (hrow.out.grown hG2 (fun e => by injection e with e; omega))
          have K2 := hide (K1.out.to hR2 hG2)
          clear hR2 hG2 K1 hrow
          go_wp2_with fail
          refine (fail_ok (l := r2) (x := 4) (hide K2.out.r) (by omega)).mono ?_
          rintro e w3 ⟨rfl, hR3, hG3⟩
          have hrow3 := hide (hrow2.out.grown hG3 (fun e => by injection e with e; omega))
          have K3 := hide (K2.out.to hR3 hG3)
          clear hR3 hG3 K2 hrow2
          have x0 := hrow3.out.cell (k := 0) rfl
          have x1 := hrow3.out.cell (k := 1) rfl
          have y0 := hrow3.out.free 0
          have y1 := hrow3.out.free 1
          go_wp2
          have hf := (hrow3.out.set_ 0 (.int .i64 0)).set_ 1 (.int .i64 0)
          have f0 := hf.cell (k := 0) rfl
          have f1 := hf.cell (k := 1) rfl
          have KF := (K3.out.set (gb := w.heap.size) (Nat.le_refl _) hg 0 (.int .i64 0)).set (gb := w.heap.size) (Nat.le_refl _) hg 1 (.int .i64 0)
          refine bodyPost_ret (v := pv 0 0) (by simp [results, Tryd.results88, go_sem, f0, f1]) rfl ⟨0, 0, rfl, (by rw [E1.out]; exact KF.r), KF.g, ?_⟩
          rw [E1.out]
          exact fun s r e => by cases e
        · have e1 : ((Rd.ok u l : Rd Unit).to slR) = .ok ((s : Int), (2 : Int) ^ k) r2 := by show slR l = _; unfold slR; rw [hm1, Rd.and_ok, hm2, Rd.and_ok, if_neg hk]
          have E1 := hide e1
          have hkz : (k : Int) ≤ 24 := by omega
          clear e1 hm1 hm2
          go_enter Tryd.func88, Tryd.ntmps88
          go_wp2_with fail
          refine (number_ok (l := l) (r := r1) (v := s) hz (hide (h.out.alloc _)) M1 hen).mono ?_
          rintro e w1 ⟨rfl, hR1, hG1⟩
          have hrow := hide ((Row.new w 62 [.int .i64 0, .int .i64 0]).grown hG1 (fun e => by injection e with e; omega))
          have K1 := hide (((Kp.start h.out).alloc (.cells #[.int .i64 0, .int .i64 0] 62)).to hR1 hG1)
          clear hR1 hG1
          go_wp2_with fail
          refine (number_ok (l := r1) (r := r2) (v := k) hz (hide K1.out.r) M2 hen).mono ?_
          rintro e w2 ⟨rfl, hR2, hG2⟩
          have hrow2 := hide (hrow.out.grown hG2 (fun e => by injection e with e; omega))
          have K2 := hide (K1.out.to hR2 hG2)
          clear hR2 hG2 K1 hrow
          have x0 := hrow2.out.cell (k := 0) rfl
          have x1 := hrow2.out.cell (k := 1) rfl
          have y0 := hrow2.out.free 0
          have y1 := hrow2.out.free 1
          go_wp2
          rw [pow_wrap (by omega)]
          have hf := (hrow2.out.set_ 0 (.int .i64 (s : Int))).set_ 1 (.int .i64 ((2 : Int) ^ k))
          have f0 := hf.cell (k := 0) rfl
          have f1 := hf.cell (k := 1) rfl
          have KF := (K2.out.set (gb := w.heap.size) (Nat.le_refl _) hg 0 (.int .i64 (s : Int))).set (gb := w.heap.size) (Nat.le_refl _) hg 1 (.int .i64 ((2 : Int) ^ k))
          refine bodyPost_ret (v := pv (s : Int) ((2 : Int) ^ k)) (by simp [results, Tryd.results88, go_sem, f0, f1]) rfl ⟨(s : Int), ((2 : Int) ^ k), rfl, (by rw [E1.out]; exact KF.r), KF.g, ?_⟩
          rw [E1.out]
          intro s r e
          injection e with e1 e2
end Go.Proofs.YtgcjckbndkddmaaDoor
end

section
/-
  What reading the operands of an instruction gives, one operand after the other. No function of the program is named here.
-/
namespace Go.Proofs.YtgcjckbndkddmaaDoor
open Go.RowKit

/-- The state behind an operand, and its value. -/
def stN (u : Bool) (p : List Int → Rd Nat) (S : Rd Unit) : Rd Unit := if u then (S.to p).st else S
def vlN (u : Bool) (p : List Int → Rd Nat) (S : Rd Unit) : Nat := if u then (S.to p).val 0 else 0
theorem stN_no (u : Bool) (p : List Int → Rd Nat) (x : Int) : stN u p (.no x) = .no x := by cases u <;> rfl
theorem stN_ok (u : Bool) (p : List Int → Rd Nat) (t : List Int) : stN u p (.ok () t) = (optR u p t).st := by cases u <;> rfl
theorem vlN_ok (u : Bool) (p : List Int → Rd Nat) (t : List Int) : vlN u p (.ok () t) = (optR u p t).val 0 := by cases u <;> rfl
theorem ops_st (ua ub uc ui : Bool) (z : Int) (t : List Int) : (opsR ua ub uc ui z t).st = stN ui wordR (stN uc numR (stN ub numR (stN ua numR (.ok () t)))) := by
  unfold opsR
  rw [stN_ok]
  rcases optR ua numR t with x | ⟨a, r⟩
  · simp only [Rd.st, Rd.and_no, stN_no]
  · simp only [Rd.st, Rd.and_ok, stN_ok]
    rcases optR ub numR r with x | ⟨b, r2⟩
    · simp only [Rd.and_no, stN_no]
    · simp only [Rd.and_ok, stN_ok, Rd.st]
      rcases optR uc numR r2 with x | ⟨c, r3⟩
      · simp only [Rd.and_no, stN_no]
      · simp only [Rd.and_ok, stN_ok, Rd.st]
        rcases optR ui wordR r3 with x | ⟨m, r4⟩
        · simp only [Rd.and_no]
        · simp only [Rd.and_ok]
theorem ops_val {ua ub uc ui : Bool} {z : Int} {t r : List Int} {x : Ins} (h : opsR ua ub uc ui z t = .ok x r) :
    x = ⟨z, (vlN ua numR (.ok () t) : Nat), (vlN ub numR (stN ua numR (.ok () t)) : Nat), (vlN uc numR (stN ub numR (stN ua numR (.ok () t))) : Nat), (vlN ui wordR (stN uc numR (stN ub numR (stN ua numR (.ok () t)))) : Nat)⟩ := by
  unfold opsR at h
  obtain ⟨a, r1, e1, h⟩ := Rd.and_eq h
  obtain ⟨b, r2, e2, h⟩ := Rd.and_eq h
  obtain ⟨c, r3, e3, h⟩ := Rd.and_eq h
  obtain ⟨m, r4, e4, h⟩ := Rd.and_eq h
  injection h with h1 h2
  rw [stN_ok, vlN_ok, e1]
  simp only [Rd.st, Rd.and_ok, Rd.val]
  rw [stN_ok, vlN_ok, e2]
  simp only [Rd.st, Rd.and_ok, Rd.val]
  rw [stN_ok, vlN_ok, e3]
  simp only [Rd.st, Rd.and_ok, Rd.val]
  rw [vlN_ok, e4]
  exact h1.symm
/-- The first byte of an instruction. -/
theorem insR_nil : insR [] = .no 1 := rfl
theorem insR_far {z : Int} {t : List Int} (h : 25 ≤ z) : insR (z :: t) = .no 4 := by unfold insR; simp only; rw [if_pos h]
theorem insR_near {z : Int} {t : List Int} (h : z < 25) : insR (z :: t) = opsR (useA z) (useB z) (useC z) (useI z) z t := by unfold insR; simp only; rw [if_neg (by omega)]
/-- Where the next byte stands. -/
theorem next_byte {w : World} {g b off n c en k : Nat} {zs t : List Int} {z e : Int} (hz : Src n c zs) (h : RdAt w g b off n c zs k en e) (hs : (zs.take en).drop k = z :: t) (hen : en ≤ n) :
    k < en ∧ w.cell? ⟨b, off + k, none⟩ = some (.int .u8 z) ∧ 0 ≤ z ∧ z ≤ 255 ∧ (zs.take en).drop (k + 1) = t := by
  have hl := congrArg List.length hs
  rw [List.length_drop, List.length_take, hz.len, List.length_cons] at hl
  have hk : k < en := by omega
  have hzk : zs[k]? = some z := by
    have h0 := congrArg (fun l => l[0]?) hs
    simp only [List.getElem?_drop, List.getElem?_cons_zero, Nat.add_zero] at h0
    rw [List.getElem?_take, if_pos hk] at h0
    exact h0
  have hb := hz.byt z (List.mem_of_getElem? hzk)
  refine ⟨hk, ?_, hb.1, hb.2, ?_⟩
  · obtain ⟨b', off', e, _, hc⟩ := h.see k (.int .u8 z) (by simp [cellsU8, List.getElem?_map, hzk])
    injection e with e
    injection e with e1 e2
    subst e1 e2
    exact hc
  · have := congrArg List.tail hs
    rw [List.tail_cons, List.tail_drop] at this
    exact this
end Go.Proofs.YtgcjckbndkddmaaDoor
end
