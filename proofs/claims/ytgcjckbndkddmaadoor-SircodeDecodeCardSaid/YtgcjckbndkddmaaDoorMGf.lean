import Derived.Test.YtgcjckbndkddmaaDoorMQinstr
import Derived.Test.YtgcjckbndkddmaaDoorMGd
set_option linter.unusedVariables false
set_option linter.unusedSimpArgs false
section
/-
  What a loop of reading keeps; what reading a function gives, step by step. No function of the program is named here.
-/
namespace Go.Proofs.YtgcjckbndkddmaaDoor
open Go.RowKit

/-- From a step's outcome on: its value, and the state behind it. -/
theorem Rd.and_to {α β : Type} (d : α) (m : Rd α) (k : α → List Int → Rd β) : m.and k = m.st.to (k (m.val d)) := by
  cases m with
  | no e => rfl
  | ok a r => rfl
/-- What a loop of n rounds that began at S0 keeps: k rounds are left, at S, with these read. -/
def LoopI {α : Type} (p : List Int → Rd α) (S0 : Rd Unit) (n : Nat) (S : Rd Unit) (k : Nat) (l : List α) : Prop :=
  ∀ (β : Type) (K : List α → List Int → Rd β), (S0.to (timesR p n)).and K = (S.to (timesR p k)).and fun bs => K (l ++ bs)
theorem LoopI.start {α : Type} (p : List Int → Rd α) (S0 : Rd Unit) (n : Nat) : LoopI p S0 n S0 n [] := fun β K => rfl
theorem LoopI.step {α : Type} {p : List Int → Rd α} {S0 : Rd Unit} {n k : Nat} {t : List Int} {l : List α} {a : α} (h : LoopI p S0 n (.ok () t) (k + 1) l) (ha : ∀ s r, (Rd.ok () t).to p = .ok s r → a = s) : LoopI p S0 n ((Rd.ok () t).to p).st k (l ++ [a]) := fun β K => by
  rw [h β K]
  show ((p t).and fun a r => (timesR p k r).and fun xs r => .ok (a :: xs) r).and _ = _
  cases hp : p t with
  | no e =>
    rw [show (Rd.ok () t : Rd Unit).to p = .no e from hp]
    rfl
  | ok b r =>
    obtain rfl := ha b r hp
    rw [show (Rd.ok () t : Rd Unit).to p = .ok a r from hp]
    show ((timesR p k r).and fun xs r => .ok (a :: xs) r).and _ = (timesR p k r).and _
    cases timesR p k r with
    | no e => rfl
    | ok bs r2 => show K (l ++ a :: bs) r2 = K (l ++ [a] ++ bs) r2; simp
theorem LoopI.done {α : Type} {p : List Int → Rd α} {S0 S : Rd Unit} {n : Nat} {l : List α} (h : LoopI p S0 n S 0 l) (β : Type) (K : List α → List Int → Rd β) : (S0.to (timesR p n)).and K = S.to (K l) := by
  rw [h β K]
  cases S with
  | no e => rfl
  | ok u t => show K (l ++ []) t = K l t; simp
theorem LoopI.broke {α : Type} {p : List Int → Rd α} {S0 : Rd Unit} {n k : Nat} {x : Int} {l : List α} (h : LoopI p S0 n (.no x) k l) (β : Type) (K : List α → List Int → Rd β) : (S0.to (timesR p n)).and K = (Rd.no x : Rd Unit).to (K l) := h β K
/-- The steps of a description. -/
theorem desc_steps (S0 S1 S2 S3 S4 S5 : Rd Unit) (P k m : Nat) (L : List (Int × Int)) (C : List Ins) (h1 : S1 = (S0.to numR).st) (hP : P = (S0.to numR).val 0) (h2 : S2 = (S1.to (countR 512)).st) (hk : k = (S1.to (countR 512)).val 0)
    (h3 : ∀ (β : Type) (K : List (Int × Int) → List Int → Rd β), (S2.to (timesR slR k)).and K = S3.to (K L)) (h4 : S4 = (S3.to (countR 1024)).st) (hm : m = (S3.to (countR 1024)).val 0)
    (h5 : ∀ (β : Type) (K : List Ins → List Int → Rd β), (S4.to (timesR insR m)).and K = S5.to (K C)) : S0.to descR = S5.to (endR ⟨P, L, C⟩) := by
  unfold descR
  rw [Rd.to_and, Rd.and_to 0, ← h1, ← hP, Rd.to_and, Rd.and_to 0, ← h2, ← hk, Rd.to_and, h3, Rd.to_and, Rd.and_to 0, ← h4, ← hm, Rd.to_and, h5]
/-- The end of a description. -/
theorem end_steps (S5 : Rd Unit) (f : Fn) : (S5.to (endR f)).st = (match S5 with
    | .no e => .no e
    | .ok _ t => if t = [] then .ok () [] else .no 2) ∧ ∀ b r, S5.to (endR f) = .ok b r → f = b := by
  cases S5 with
  | no e => exact ⟨rfl, fun b r h => by cases h⟩
  | ok u t =>
    refine ⟨?_, fun b r h => (endR_ok h).2.2.symm⟩
    show (endR f t).st = _
    unfold endR
    by_cases h : t = []
    · simp [h, Rd.st, Rd.and]
    · simp [h, Rd.st, Rd.and]
/-- The bytes of a description, as the reader goes on with a nearer end. -/
theorem nearer {zs r : List Int} {k en n : Nat} (h : (zs.take en).drop k = r) (hk : k + n ≤ en) : (zs.take (k + n)).drop k = r.take n := by
  rw [← h, List.drop_take, List.drop_take, List.take_take, show k + n - k = n by omega, Nat.min_eq_left (by omega)]
theorem farther {zs r : List Int} {k en n : Nat} (h : (zs.take en).drop k = r) : (zs.take en).drop (k + n) = r.drop n := by
  rw [← h, List.drop_drop]
theorem rest_len {zs r : List Int} {k en n : Nat} (h : (zs.take en).drop k = r) (hl : zs.length = n) (hen : en ≤ n) : r.length = en - k := by
  rw [← h, List.length_drop, List.length_take, hl]
  omega
end Go.Proofs.YtgcjckbndkddmaaDoor
end

section
/-
  The reference's reader: function, where it ends at once. Conditions: from 1 to 2^20 bytes.
-/
namespace Go.Proofs.YtgcjckbndkddmaaDoor
open Go.RowKit

/-- Bytes at a slice from block lo on. -/
structure DsAt (w : World) (lo B : Nat) (A : Option Addr) (n c : Nat) (ds : List Int) : Prop where
  len : ds.length = n
  cap : Cap A n c
  far : Far lo A
  see : Sees w B A (cellsU8 ds)
/-- What a call that reads a function leaves. -/
def FuPost (g b off n c : Nat) (zs : List Int) (en : Nat) (S : Rd Unit) (w : World) (e : Ending) (w' : World) : Prop :=
  ∃ (P : Int) (A1 : Option Addr) (n1 c1 : Nat) (A2 : Option Addr) (n2 c2 : Nat) (A3 : Option Addr) (n3 c3 : Nat) (f : Fn) (ds : List Int), e = .returned (.tuple #[fv P A1 n1 c1 A2 n2 c2, .slice A3 n3 c3]) ∧
    HdAt w' w.heap.size w'.heap.size ⟨P, A1, n1, c1, A2, n2, c2⟩ f ∧ DsAt w' w.heap.size w'.heap.size A3 n3 c3 ds ∧ RdSt w' g b off n c zs en (S.to fnR).st ∧ w.grownBy w' (some g) ∧ ∀ u r, S.to fnR = .ok u r → (f, ds) = u
abbrev zFn : List Value := [.int .i64 0, .slice none 0 0, .slice none 0 0]
theorem zero_head (w : World) (lo B : Nat) : HdAt w lo B ⟨0, none, 0, 0, none, 0, 0⟩ ⟨0, [], []⟩ :=
  ⟨rfl, rfl, rfl, ⟨fun _ => rfl, Nat.le_refl _, Nat.zero_le _⟩, ⟨fun _ => rfl, Nat.le_refl _, Nat.zero_le _⟩, Far.none _, Far.none _, Sees.nil_ _ _ _, Sees.nil_ _ _ _⟩
theorem zero_desc (w : World) (lo B : Nat) : DsAt w lo B none 0 0 [] := ⟨rfl, ⟨fun _ => rfl, Nat.le_refl _, Nat.zero_le _⟩, Far.none _, Sees.nil_ _ _ _⟩

-- BY PROGRAM (genfun.py)
set_option maxRecDepth 100000 in
set_option maxHeartbeats 1600000 in
theorem func_no (g b off n c en : Nat) (zs : List Int) (x : Int) (w : World) (hz : Hid (Src n c zs)) (h : Hid (RdSt w g b off n c zs en (.no x))) (hen : en ≤ n) :
    Calls Tryd.prog 67 #[.pointer (some ⟨g, 0, none⟩)] w (FuPost g b off n c zs en (.no x) w) := by
  have hg := h.out.lt
  have hne : w.heap.size ≠ g := by omega
  obtain ⟨W, hW⟩ : ∃ W, w.alloc (.cells #[.int .i64 0, .slice none 0 0, .slice none 0 0] 53) = W := ⟨_, rfl⟩
  have HW := hide hW
  have K0 := hide (show Kp w g b off n c zs en (.no x) W by rw [← hW]; exact (Kp.start h.out).alloc _)
  have hrow := hide (show Row W w.heap.size 53 zFn by rw [← hW]; exact Row.new w _ _)
  clear hW
  have E := hide (show ((Rd.no x : Rd Unit).to fnR) = .no x from rfl)
  go_enter Tryd.func67, Tryd.ntmps67
  go_wp2_with fail
  rw [HW.out]
  refine (number_no (x := x) hz (hide K0.out.r) hen).mono ?_
  rintro e w1 ⟨rfl, hR1, hG1⟩
  have K1 := hide (K0.out.to hR1 hG1)
  have r1 := hide (hrow.out.grown hG1 (fun e => by injection e with e; omega))
  clear hR1 hG1 K0 hrow
  obtain ⟨k1, e, r, hke1, rfl, he1, he2⟩ := K1.out.r
  have c3 := r.row.cell (k := 3) rfl
  have hb : (e == 0) = false := by rw [beq_eq_false_iff_ne]; omega
  clear r
  go_wp2_with fail
  go_quiet (fail)
  have x0 := r1.out.cell (k := 0) rfl
  have y0 := r1.out.free 0
  have x1 := r1.out.cell (k := 1) rfl
  have y1 := r1.out.free 1
  have x2 := r1.out.cell (k := 2) rfl
  have y2 := r1.out.free 2
  go_wp2
  have hf := fun q => (((r1.out.drewN q).set_ 0 (.int .i64 0)).set_ 1 (.slice none 0 0)).set_ 2 (.slice none 0 0)
  have KF := fun q => (((K1.out.drewN q).set (Nat.le_refl w.heap.size) hg 0 (.int .i64 0)).set (Nat.le_refl w.heap.size) hg 1 (.slice none 0 0)).set (Nat.le_refl w.heap.size) hg 2 (.slice none 0 0)
  have f0 := fun q => (hf q).cell (k := 0) rfl
  have f1 := fun q => (hf q).cell (k := 1) rfl
  have f2 := fun q => (hf q).cell (k := 2) rfl
  refine bodyPost_ret (v := .tuple #[fv 0 none 0 0 none 0 0, .slice none 0 0]) (by simp [results, Tryd.results67, go_sem, f0, f1, f2]) rfl ⟨0, none, 0, 0, none, 0, 0, none, 0, 0, ⟨0, [], []⟩, [], rfl, zero_head _ _ _, zero_desc _ _ _, ?_, (KF _).g, ?_⟩
  · rw [E.out]; exact (KF _).r
  · rw [E.out]; exact fun u r e => by cases e

set_option maxRecDepth 100000 in
set_option maxHeartbeats 1600000 in
theorem func_err (g b off n c en : Nat) (zs : List Int) (l : List Int) (x : Int) (w : World) (hz : Hid (Src n c zs)) (h : Hid (RdSt w g b off n c zs en (.ok () l))) (hen : en ≤ n) (hm : Hid (numR l = .no x)) :
    Calls Tryd.prog 67 #[.pointer (some ⟨g, 0, none⟩)] w (FuPost g b off n c zs en (.ok () l) w) := by
  have hg := h.out.lt
  have hne : w.heap.size ≠ g := by omega
  obtain ⟨W, hW⟩ : ∃ W, w.alloc (.cells #[.int .i64 0, .slice none 0 0, .slice none 0 0] 53) = W := ⟨_, rfl⟩
  have HW := hide hW
  have K0 := hide (show Kp w g b off n c zs en (.ok () l) W by rw [← hW]; exact (Kp.start h.out).alloc _)
  have hrow := hide (show Row W w.heap.size 53 zFn by rw [← hW]; exact Row.new w _ _)
  clear hW
  have E := hide (show ((Rd.ok () l : Rd Unit).to fnR) = .no x by show fnR l = _; unfold fnR; rw [hm.out]; rfl)
  go_enter Tryd.func67, Tryd.ntmps67
  go_wp2_with fail
  rw [HW.out]
  refine (number_err (l := l) hz (hide K0.out.r) hm hen).mono ?_
  rintro e w1 ⟨rfl, hR1, hG1⟩
  have K1 := hide (K0.out.to hR1 hG1)
  have r1 := hide (hrow.out.grown hG1 (fun e => by injection e with e; omega))
  clear hR1 hG1 K0 hrow
  obtain ⟨k1, e, r, hke1, rfl, he1, he2⟩ := K1.out.r
  have c3 := r.row.cell (k := 3) rfl
  have hb : (e == 0) = false := by rw [beq_eq_false_iff_ne]; omega
  clear r
  go_wp2_with fail
  go_quiet (fail)
  have x0 := r1.out.cell (k := 0) rfl
  have y0 := r1.out.free 0
  have x1 := r1.out.cell (k := 1) rfl
  have y1 := r1.out.free 1
  have x2 := r1.out.cell (k := 2) rfl
  have y2 := r1.out.free 2
  go_wp2
  have hf := fun q => (((r1.out.drewN q).set_ 0 (.int .i64 0)).set_ 1 (.slice none 0 0)).set_ 2 (.slice none 0 0)
  have KF := fun q => (((K1.out.drewN q).set (Nat.le_refl w.heap.size) hg 0 (.int .i64 0)).set (Nat.le_refl w.heap.size) hg 1 (.slice none 0 0)).set (Nat.le_refl w.heap.size) hg 2 (.slice none 0 0)
  have f0 := fun q => (hf q).cell (k := 0) rfl
  have f1 := fun q => (hf q).cell (k := 1) rfl
  have f2 := fun q => (hf q).cell (k := 2) rfl
  refine bodyPost_ret (v := .tuple #[fv 0 none 0 0 none 0 0, .slice none 0 0]) (by simp [results, Tryd.results67, go_sem, f0, f1, f2]) rfl ⟨0, none, 0, 0, none, 0, 0, none, 0, 0, ⟨0, [], []⟩, [], rfl, zero_head _ _ _, zero_desc _ _ _, ?_, (KF _).g, ?_⟩
  · rw [E.out]; exact (KF _).r
  · rw [E.out]; exact fun u r e => by cases e

set_option maxRecDepth 100000 in
set_option maxHeartbeats 1600000 in
theorem func_short (g b off n c en : Nat) (zs : List Int) (l r : List Int) (v : Nat) (w : World) (hz : Hid (Src n c zs)) (h : Hid (RdSt w g b off n c zs en (.ok () l))) (hen : en ≤ n) (hm : Hid (numR l = .ok v r)) (hlt : r.length < v) (hv : v ≤ 2147483647) :
    Calls Tryd.prog 67 #[.pointer (some ⟨g, 0, none⟩)] w (FuPost g b off n c zs en (.ok () l) w) := by
  have hg := h.out.lt
  have hne : w.heap.size ≠ g := by omega
  obtain ⟨W, hW⟩ : ∃ W, w.alloc (.cells #[.int .i64 0, .slice none 0 0, .slice none 0 0] 53) = W := ⟨_, rfl⟩
  have HW := hide hW
  have K0 := hide (show Kp w g b off n c zs en (.ok () l) W by rw [← hW]; exact (Kp.start h.out).alloc _)
  have hrow := hide (show Row W w.heap.size 53 zFn by rw [← hW]; exact Row.new w _ _)
  clear hW
  have E := hide (show ((Rd.ok () l : Rd Unit).to fnR) = .no 1 by show fnR l = _; unfold fnR; rw [hm.out, Rd.and_ok, if_pos hlt])
  go_enter Tryd.func67, Tryd.ntmps67
  go_wp2_with fail
  rw [HW.out]
  refine (number_ok (l := l) (r := r) (v := v) hz (hide K0.out.r) hm hen).mono ?_
  rintro e w1 ⟨rfl, hR1, hG1⟩
  have K1 := hide (K0.out.to hR1 hG1)
  have r1 := hide (hrow.out.grown hG1 (fun e => by injection e with e; omega))
  clear hR1 hG1 K0 hrow
  obtain ⟨k1, e, rr, hke1, rfl, hs1⟩ := K1.out.r
  have c1 := rr.row.cell (k := 1) rfl
  have c2 := rr.row.cell (k := 2) rfl
  have c3 := rr.row.cell (k := 3) rfl
  have hlen := rest_len hs1 hz.out.len hen
  have hmost := hz.out.most
  have hgt : (en : Int) - (k1 : Int) < (v : Int) := by omega
  clear rr hs1
  go_wp2_with fail
  go_quiet (fail)
  go_wp2_with fail
  refine (fail_ok (l := r) (x := 1) (hide (K1.out.drewN _).r) (by omega)).mono ?_
  rintro e w2 ⟨rfl, hR2, hG2⟩
  have K2 := hide ((K1.out.drewN _).to hR2 hG2)
  have r2 := hide ((r1.out.drewN _).grown hG2 (fun e => by injection e with e; omega))
  clear hR2 hG2 K1 r1 c1 c2 c3
  obtain ⟨k2, e, r, hke2, rfl, he⟩ := K2.out.r
  have c3 := r.row.cell (k := 3) rfl
  clear r
  have x0 := r2.out.cell (k := 0) rfl
  have y0 := r2.out.free 0
  have x1 := r2.out.cell (k := 1) rfl
  have y1 := r2.out.free 1
  have x2 := r2.out.cell (k := 2) rfl
  have y2 := r2.out.free 2
  go_wp2
  have hf := (((r2.out).set_ 0 (.int .i64 0)).set_ 1 (.slice none 0 0)).set_ 2 (.slice none 0 0)
  have KF := (((K2.out).set (Nat.le_refl w.heap.size) hg 0 (.int .i64 0)).set (Nat.le_refl w.heap.size) hg 1 (.slice none 0 0)).set (Nat.le_refl w.heap.size) hg 2 (.slice none 0 0)
  have f0 := hf.cell (k := 0) rfl
  have f1 := hf.cell (k := 1) rfl
  have f2 := hf.cell (k := 2) rfl
  refine bodyPost_ret (v := .tuple #[fv 0 none 0 0 none 0 0, .slice none 0 0]) (by simp [results, Tryd.results67, go_sem, f0, f1, f2]) rfl ⟨0, none, 0, 0, none, 0, 0, none, 0, 0, ⟨0, [], []⟩, [], rfl, zero_head _ _ _, zero_desc _ _ _, ?_, KF.g, ?_⟩
  · rw [E.out]; exact KF.r
  · rw [E.out]; exact fun u r e => by cases e
end Go.Proofs.YtgcjckbndkddmaaDoor
end
