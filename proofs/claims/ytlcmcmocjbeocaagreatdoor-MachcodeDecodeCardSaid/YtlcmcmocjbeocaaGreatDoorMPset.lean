import Derived.Test.YtlcmcmocjbeocaaGreatDoorMPmem
import Derived.Test.YtlcmcmocjbeocaaGreatDoorMBitsm
import Derived.Test.YtlcmcmocjbeocaaGreatDoorMJrdr
import Derived.Laws.OwnMore
import Derived.Laws.MakeOwn
import Derived.Deep.RegionLaw
set_option linter.unusedVariables false
set_option linter.unusedSimpArgs false
section
/-
  Programs of which one function has been changed: in memory, and as lists. No function of the program is named here.
-/
namespace Go.Proofs.YtlcmcmocjbeocaaGreatDoor
open Go.RowKit

section
variable {w w' : World} {lo lo' B B' n c n' c' i : Nat} {A A' : Option Addr} {hs : List Hd} {F : Pg} {h : Hd} {f : Fn}
/-- One head set anew. -/
theorem PgAt.set (H : PgAt w lo B A n c hs F) (hk : ∀ p : Addr, lo ≤ p.block → p.block < B → w'.cell? p = w.cell? p) (hB : B ≤ B') (hlo : lo' ≤ lo) (hcap : Cap A' n c') (hfar : Far lo' A') (hs' : Sees w' B' A' (hcells (hs.set i h))) (hh : HdAt w' lo' B' h f) : PgAt w' lo' B' A' n c' (hs.set i h) (F.set i f) := by
  refine ⟨by rw [List.length_set]; exact H.len, hcap, hfar, hs', ⟨by rw [List.length_set, List.length_set]; exact H.hd.len, fun k h2 f2 e1 e2 => ?_⟩⟩
  by_cases e : i = k
  · subst e
    have l1 : i < hs.length := by
      rcases Nat.lt_or_ge i hs.length with h1 | h1
      · exact h1
      · rw [List.getElem?_eq_none (by rw [List.length_set]; exact h1)] at e1; cases e1
    have l2 : i < F.length := by rw [← H.hd.len]; exact l1
    rw [List.getElem?_set_self l1] at e1
    rw [List.getElem?_set_self l2] at e2
    injection e1 with e1
    injection e2 with e2
    subst e1 e2
    exact hh
  · rw [List.getElem?_set_ne e] at e1 e2
    exact ((H.hd.at_ k h2 f2 e1 e2).keep hk).more hB hlo
end

/-- The stores of heads into a row of heads. -/
theorem hset2 (hs : List Hd) (i : Nat) (h : Hd) (hx : hs[i]? = some h) (A : Option Addr) (n c : Nat) : (hcells hs).set (i * 3 + 2) (.slice A n c) = hcells (hs.set i ⟨h.p, h.a1, h.n1, h.c1, A, n, c⟩) := flat_set hcell_len hs i h _ hx 2 (by omega) _ rfl
/-- An instruction changed. -/
theorem iset0 {ys : List Ins} {k : Nat} {x : Ins} (hx : ys[k]? = some x) (t : Int) : (icells ys).set (k * 5) (.int .i64 t) = icells (ys.set k ⟨t, x.a, x.b, x.c, x.imm⟩) := flat_set icell_len ys k x _ hx 0 (by omega) _ rfl
theorem iset1 {ys : List Ins} {k : Nat} {x : Ins} (hx : ys[k]? = some x) (t : Int) : (icells ys).set (k * 5 + 1) (.int .i64 t) = icells (ys.set k ⟨x.op, t, x.b, x.c, x.imm⟩) := flat_set icell_len ys k x _ hx 1 (by omega) _ rfl
theorem iset2 {ys : List Ins} {k : Nat} {x : Ins} (hx : ys[k]? = some x) (t : Int) : (icells ys).set (k * 5 + 2) (.int .i64 t) = icells (ys.set k ⟨x.op, x.a, t, x.c, x.imm⟩) := flat_set icell_len ys k x _ hx 2 (by omega) _ rfl
theorem iset3 {ys : List Ins} {k : Nat} {x : Ins} (hx : ys[k]? = some x) (t : Int) : (icells ys).set (k * 5 + 3) (.int .i64 t) = icells (ys.set k ⟨x.op, x.a, x.b, t, x.imm⟩) := flat_set icell_len ys k x _ hx 3 (by omega) _ rfl
theorem iset4 {ys : List Ins} {k : Nat} {x : Ins} (hx : ys[k]? = some x) (t : Int) : (icells ys).set (k * 5 + 4) (.int .u64 t) = icells (ys.set k ⟨x.op, x.a, x.b, x.c, t⟩) := flat_set icell_len ys k x _ hx 4 (by omega) _ rfl
/-- The cells of an element of an owned row. -/
theorem ins_row {w : World} {base G n c : Nat} {t : TypeId} {ys : List Ins} {k : Nat} {x : Ins} (h : w.ownsRow base t 5 (.slice (some ⟨G, 0, none⟩) n c) n (icells ys)) (hx : ys[k]? = some x) :
    (w.cell? ⟨G, k * 5, none⟩ = some (.int .i64 x.op) ∧ w.cell? ⟨G, k * 5 + 1, none⟩ = some (.int .i64 x.a) ∧ w.cell? ⟨G, k * 5 + 2, none⟩ = some (.int .i64 x.b) ∧ w.cell? ⟨G, k * 5 + 3, none⟩ = some (.int .i64 x.c) ∧ w.cell? ⟨G, k * 5 + 4, none⟩ = some (.int .u64 x.imm)) ∧ ∀ j, w.frozen? ⟨G, j, none⟩ = false := by
  have g := fun j hj => flat_at icell_len ys k _ hx j hj
  have c' := fun j u (hu : (icells ys)[j]? = some u) => (by
    have := h.cells (g := G) rfl j u hu
    rwa [WideShapes.add_plain, Nat.zero_add] at this : w.cell? ⟨G, j, none⟩ = some u)
  exact ⟨⟨c' _ _ (g 0 (by omega)), c' _ _ (g 1 (by omega)), c' _ _ (g 2 (by omega)), c' _ _ (g 3 (by omega)), c' _ _ (g 4 (by omega))⟩, fun j => h.frozenAt j⟩
theorem hd_row {w : World} {base G n c : Nat} {t : TypeId} {hs : List Hd} {k : Nat} {x : Hd} (h : w.ownsRow base t 3 (.slice (some ⟨G, 0, none⟩) n c) n (hcells hs)) (hx : hs[k]? = some x) :
    (w.cell? ⟨G, k * 3, none⟩ = some (.int .i64 x.p) ∧ w.cell? ⟨G, k * 3 + 1, none⟩ = some (.slice x.a1 x.n1 x.c1) ∧ w.cell? ⟨G, k * 3 + 2, none⟩ = some (.slice x.a2 x.n2 x.c2)) ∧ ∀ j, w.frozen? ⟨G, j, none⟩ = false := by
  have g := fun j hj => flat_at hcell_len hs k _ hx j hj
  have c' := fun j u (hu : (hcells hs)[j]? = some u) => (by
    have := h.cells (g := G) rfl j u hu
    rwa [WideShapes.add_plain, Nat.zero_add] at this : w.cell? ⟨G, j, none⟩ = some u)
  exact ⟨⟨c' _ _ (g 0 (by omega)), c' _ _ (g 1 (by omega)), c' _ _ (g 2 (by omega))⟩, fun j => h.frozenAt j⟩
theorem hset3 (hs : List Hd) (i : Nat) (h h' : Hd) (hx : hs[i]? = some h) : (((hcells hs).set (i * 3) (.int .i64 h'.p)).set (i * 3 + 1) (.slice h'.a1 h'.n1 h'.c1)).set (i * 3 + 2) (.slice h'.a2 h'.n2 h'.c2) = hcells (hs.set i h') := by
  have hk : i < hs.length := (List.getElem?_eq_some_iff.1 hx).1
  have s0 := flat_set hcell_len hs i h ⟨h'.p, h.a1, h.n1, h.c1, h.a2, h.n2, h.c2⟩ hx 0 (by omega) (.int .i64 h'.p) rfl
  have s1 := flat_set hcell_len (hs.set i ⟨h'.p, h.a1, h.n1, h.c1, h.a2, h.n2, h.c2⟩) i ⟨h'.p, h.a1, h.n1, h.c1, h.a2, h.n2, h.c2⟩ ⟨h'.p, h'.a1, h'.n1, h'.c1, h.a2, h.n2, h.c2⟩ (by rw [List.getElem?_set_self hk]) 1 (by omega) (.slice h'.a1 h'.n1 h'.c1) rfl
  have s2 := flat_set hcell_len (hs.set i ⟨h'.p, h'.a1, h'.n1, h'.c1, h.a2, h.n2, h.c2⟩) i ⟨h'.p, h'.a1, h'.n1, h'.c1, h.a2, h.n2, h.c2⟩ h' (by rw [List.getElem?_set_self hk]) 2 (by omega) (.slice h'.a2 h'.n2 h'.c2) rfl
  rw [List.set_set] at s1 s2
  unfold hcells
  rw [Nat.add_zero] at s0
  rw [s0, s1, s2]
end Go.Proofs.YtlcmcmocjbeocaaGreatDoor
end

section
/-
  Rows that are made and filled element by element. No function of the program is named here.
-/
namespace Go.Proofs.YtlcmcmocjbeocaaGreatDoor
open Go.RowKit

/-- n zero elements. -/
theorem made_flat {α : Type} {f : α → List Value} {a : α} {m : Nat} {z : Array Value} (hm : ∀ a, (f a).length = m) (hz : z.toList = f a) (n : Nat) : madeCells z (n * m) = ((List.replicate n a).flatMap f).toArray := by
  have hzs : z.size = m := by rw [← Array.length_toList, hz, hm]
  apply Array.ext'
  apply List.ext_getElem?
  intro j
  have hl : ((List.replicate n a).flatMap f).length = n * m := by rw [flat_len hm, List.length_replicate]
  by_cases hj : j < n * m
  · have hm0 : 0 < m := by
      rcases Nat.eq_zero_or_pos m with h | h
      · subst h; simp at hj
      · exact h
    have hi : j / m < n := Nat.div_lt_of_lt_mul (by rw [Nat.mul_comm]; exact hj)
    have hr : j % m < m := Nat.mod_lt _ hm0
    have h := flat_at hm (List.replicate n a) (j / m) a (by rw [List.getElem?_replicate, if_pos hi]) (j % m) hr
    rw [Nat.mul_comm, Nat.div_add_mod] at h
    rw [List.toList_toArray, h]
    have h2 : (madeCells z (n * m)).toList[j]? = some (z[j % z.size]!) := by
      simp [madeCells, hj]
    rw [h2, hzs, ← hz, Array.getElem?_toList]
    simp [getElem!_def, hzs, hr]
  · rw [List.getElem?_eq_none (by rw [Array.length_toList, size_madeCells]; omega), List.getElem?_eq_none (by rw [List.toList_toArray, hl]; omega)]
theorem make_flat {P : Program} {t e : TypeId} {i : TypeInfo} {z : Value} {α : Type} {f : α → List Value} {a : α} {m : Nat} (ht : P.underlying t = some (.slice e)) (hi : P.info? e = some i) (hz : i.zero = some z) (hs : i.size = m) (hm : ∀ a, (f a).length = m) (hzc : z.cells.toList = f a) (n : Nat) (hb : i.bytes * n ≤ 140737488355328) (h63 : n ≤ 2147483647) (W : World) :
    (Instr.makeSlice t (.int .i64 (n : Int)) (.int .i64 (n : Int))).run P W = .ok (.slice (some ⟨W.heap.size, 0, none⟩) n n) (W.alloc (.cells ((List.replicate n a).flatMap f).toArray e)) := by
  have h := run_make W t e i _ ht hi hz .i64 .i64 (n : Int) (n : Int) (by omega) (by omega) (by rw [← Int.natCast_mul]; omega) (by omega)
  rw [h, Int.toNat_natCast, hs, made_flat hm hzc n]
theorem fill_set {α : Type} {L : List α} {n i : Nat} {z a : α} (hL : L.length = i) (hi : i < n) : (L ++ List.replicate (n - i) z).set i a = (L ++ [a]) ++ List.replicate (n - (i + 1)) z := by
  rw [List.set_append_right _ _ (by omega), hL, Nat.sub_self, show n - i = (n - (i + 1)) + 1 by omega, List.replicate_succ, List.set_cons_zero, List.append_assoc]
  rfl
theorem fill_at {α : Type} {L : List α} {n i : Nat} {z : α} (hL : L.length = i) (hi : i < n) : (L ++ List.replicate (n - i) z)[i]? = some z := by
  rw [List.getElem?_append_right (by omega), hL, Nat.sub_self, List.getElem?_replicate, if_pos (by omega)]
theorem pcells_set {l : List (Int × Int)} {i : Nat} {x : Int × Int} (h : l[i]? = some x) (s t : Int) : ((pcells l).set (i * 2) (.int .i64 s)).set (i * 2 + 1) (.int .i64 t) = pcells (l.set i (s, t)) := by
  have hk : i < l.length := (List.getElem?_eq_some_iff.1 h).1
  have hl : ∀ u : Int × Int, ([Value.int .i64 u.1, .int .i64 u.2] : List Value).length = 2 := fun _ => rfl
  have s0 := flat_set hl l i x (s, x.2) h 0 (by omega) (.int .i64 s) rfl
  have s1 := flat_set hl (l.set i (s, x.2)) i (s, x.2) (s, t) (by rw [List.getElem?_set_self hk]) 1 (by omega) (.int .i64 t) rfl
  rw [List.set_set] at s1
  unfold pcells
  rw [Nat.add_zero] at s0
  rw [s0, s1]
theorem icells_set {l : List Ins} {i : Nat} {x : Ins} (h : l[i]? = some x) (o a b c m : Int) :
    (((((icells l).set (i * 5) (.int .i64 o)).set (i * 5 + 1) (.int .i64 a)).set (i * 5 + 2) (.int .i64 b)).set (i * 5 + 3) (.int .i64 c)).set (i * 5 + 4) (.int .u64 m) = icells (l.set i ⟨o, a, b, c, m⟩) := by
  have hk : i < l.length := (List.getElem?_eq_some_iff.1 h).1
  have s0 := flat_set icell_len l i x ⟨o, x.a, x.b, x.c, x.imm⟩ h 0 (by omega) (.int .i64 o) rfl
  have s1 := flat_set icell_len (l.set i ⟨o, x.a, x.b, x.c, x.imm⟩) i ⟨o, x.a, x.b, x.c, x.imm⟩ ⟨o, a, x.b, x.c, x.imm⟩ (by rw [List.getElem?_set_self hk]) 1 (by omega) (.int .i64 a) rfl
  have s2 := flat_set icell_len (l.set i ⟨o, a, x.b, x.c, x.imm⟩) i ⟨o, a, x.b, x.c, x.imm⟩ ⟨o, a, b, x.c, x.imm⟩ (by rw [List.getElem?_set_self hk]) 2 (by omega) (.int .i64 b) rfl
  have s3 := flat_set icell_len (l.set i ⟨o, a, b, x.c, x.imm⟩) i ⟨o, a, b, x.c, x.imm⟩ ⟨o, a, b, c, x.imm⟩ (by rw [List.getElem?_set_self hk]) 3 (by omega) (.int .i64 c) rfl
  have s4 := flat_set icell_len (l.set i ⟨o, a, b, c, x.imm⟩) i ⟨o, a, b, c, x.imm⟩ ⟨o, a, b, c, m⟩ (by rw [List.getElem?_set_self hk]) 4 (by omega) (.int .u64 m) rfl
  rw [List.set_set] at s1 s2 s3 s4
  unfold icells
  rw [Nat.add_zero] at s0
  rw [s0, s1, s2, s3, s4]

theorem dinfo_slot : (Tryz.prog.info? 74).map (fun i => (i.zero, i.size, i.bytes)) = some (some (.agg #[.int .i64 0, .int .i64 0]), 2, 16) := by kernel_rfl
theorem dinfo_instr : (Tryz.prog.info? 64).map (fun i => (i.zero, i.size, i.bytes)) = some (some (.agg #[.int .i64 0, .int .i64 0, .int .i64 0, .int .i64 0, .int .u64 0]), 5, 40) := by kernel_rfl
end Go.Proofs.YtlcmcmocjbeocaaGreatDoor
end

section
/-
  The program's reader: frame. Conditions: at most 2^20 bytes.
-/
namespace Go.Proofs.YtlcmcmocjbeocaaGreatDoor
open Go.RowKit

theorem timesL_snoc {α : Type} (p : List Int → α × List Int) : ∀ (n : Nat) (l : List Int), timesL p (n + 1) l = ((timesL p n l).1 ++ [(p (timesL p n l).2).1], (p (timesL p n l).2).2)
  | 0, l => rfl
  | n + 1, l => by
    have h := timesL_snoc p n (p l).2
    rw [timesL, h]
    rfl
theorem timesL_len {α : Type} (p : List Int → α × List Int) : ∀ (n : Nat) (l : List Int), (timesL p n l).1.length = n
  | 0, _ => rfl
  | n + 1, l => by
    rw [timesL]
    simp [timesL_len p n]
/-- What a call that reads a frame leaves. -/
def JFrPost (g : Nat) (Al : Int) (l : List Int) (w : World) (e : Ending) (w' : World) : Prop :=
  ∃ (A : Option Addr) (n c : Nat), e = .returned (.agg #[.int .i64 (frL Al l).1.params, .int .i64 (frL Al l).1.size, .slice A n c]) ∧ FdAt w' w.heap.size w'.heap.size ⟨(frL Al l).1.params, (frL Al l).1.size, A, n, c⟩ (frL Al l).1 ∧ JR w' g (frL Al l).2 ∧ w.grownBy w' (some g)
/-- What the loop over a frame's code keeps. -/
structure JFrI (g G X n : Nat) (P S : Int) (l : List Int) (w : World) (i : Nat) (wr : World) : Prop where
  k : JK w g (timesL minsL i l).2 wr
  x : Row wr X 90 [.int .i64 P, .int .i64 S, .slice (some ⟨G, 0, none⟩) n n]
  r : Row wr G 64 (icells ((timesL minsL i l).1 ++ List.replicate (n - i) ⟨0, 0, 0, 0, 0⟩))
  z : Row wr w.heap.size 90 [.int .i64 0, .int .i64 0, .slice none 0 0]

set_option maxRecDepth 100000 in
set_option maxHeartbeats 4000000 in
theorem jframe_any (g : Nat) (Al : Int) (l : List Int) (w : World) (h : Hid (JR w g l)) :
    Calls Tryz.prog 78 #[.pointer (some ⟨g, 0, none⟩), .int .i64 Al] w (JFrPost g Al l w) := by
  have hg := h.out.lt
  obtain ⟨i0, hi, hz0, hz1, hz2⟩ := info_parts dinfo_instr
  obtain ⟨l1, hl1⟩ : ∃ x, (numL l).2 = x := ⟨_, rfl⟩
  obtain ⟨P, hP⟩ : ∃ x, (numL l).1 = x := ⟨_, rfl⟩
  obtain ⟨l2, hl2⟩ : ∃ x, (numL l1).2 = x := ⟨_, rfl⟩
  obtain ⟨Q, hQ⟩ : ∃ x, (numL l1).1 = x := ⟨_, rfl⟩
  obtain ⟨l3, hl3⟩ : ∃ x, (limL 1024 l2).2 = x := ⟨_, rfl⟩
  obtain ⟨n, hn⟩ : ∃ x, (limL 1024 l2).1 = x := ⟨_, rfl⟩
  have hn1024 : n ≤ 1024 := by rw [← hn]; exact Nat.min_le_right _ _
  have HF := hide (show frL Al l = (⟨P, wrap64 (Q * Al), (timesL minsL n l3).1⟩, (timesL minsL n l3).2) by rw [← hn, ← hl3, ← hQ, ← hl2, ← hP, ← hl1]; rfl)
  have hmk := make_flat (P := Tryz.prog) (f := icell) (a := (⟨0, 0, 0, 0, 0⟩ : Ins)) Tryz.underlying65 hi hz0 hz1 icell_len rfl n (by rw [hz2]; omega) (by omega)
  obtain ⟨W, hW⟩ : ∃ W, w.alloc (.cells #[.int .i64 0, .int .i64 0, .slice none 0 0] 90) = W := ⟨_, rfl⟩
  have HW := hide hW
  have K0 := hide (show JK w g l W by rw [← hW]; exact (JK.start h.out).alloc _)
  have R0 := hide (show Row W w.heap.size 90 [.int .i64 0, .int .i64 0, .slice none 0 0] by rw [← hW]; exact Row.new w _ _)
  have ca := jnum_any g l W (hide K0.out.r)
  have cb := fun w h => jnum_any g l1 w h
  have cc := fun w h => jlim_any g 1024 l2 w h (by omega)
  rw [hl1, hP] at ca
  rw [hl2, hQ] at cb
  rw [hl3, hn, show ((1024 : Nat) : Int) = 1024 from rfl] at cc
  clear hW hl1 hP hl2 hQ hl3 hn
  go_enter Tryz.func78, Tryz.ntmps78
  go_wp2_with fail
  rw [HW.out]
  refine ca.mono ?_
  rintro e w1 ⟨rfl, hR, hG⟩
  have K1 := hide (K0.out.to hR hG)
  have R1 := hide (R0.out.grown hG (fun e => by injection e with e; omega))
  clear hR hG K0 R0 HW ca
  go_wp2_with fail
  refine (cb w1 (hide K1.out.r)).mono ?_
  rintro e w2 ⟨rfl, hR, hG⟩
  have K2 := hide (K1.out.to hR hG)
  have R2 := hide (R1.out.grown hG (fun e => by injection e with e; omega))
  obtain ⟨X, hX⟩ : ∃ X, w2.heap.size = X := ⟨_, rfl⟩
  have HX := hide hX
  have hwX : w.heap.size < X := by rw [← hX]; exact R2.out.lt
  obtain ⟨S, hS⟩ : ∃ S, wrap64 (Q * Al) = S := ⟨_, rfl⟩
  rw [hS] at HF
  have HS := hide hS
  obtain ⟨W2, hW2⟩ : ∃ V, w2.alloc (.cells #[.int .i64 P, .int .i64 S, .slice none 0 0] 90) = V := ⟨_, rfl⟩
  have HW2 := hide hW2
  have K3 := hide (show JK w g l2 W2 by rw [← hW2]; exact K2.out.alloc _)
  have R3 := hide (show Row W2 w.heap.size 90 [.int .i64 0, .int .i64 0, .slice none 0 0] by rw [← hW2]; exact R2.out.alloc _)
  have X3 := hide (show Row W2 X 90 [.int .i64 P, .int .i64 S, .slice none 0 0] by rw [← hW2, ← hX]; exact Row.new w2 90 [.int .i64 P, .int .i64 S, .slice none 0 0])
  clear hR hG K1 R1 cb hX hW2 hS K2 R2
  go_upto_region 2 with (fail)
  rw [HS.out, HW2.out, HX.out]
  clear HS HW2 HX
  go_wp2_with fail
  refine (cc W2 (hide K3.out.r)).mono ?_
  rintro e w3 ⟨rfl, hR, hG⟩
  have K4 := hide (K3.out.to hR hG)
  have R4 := hide (R3.out.grown hG (fun e => by injection e with e; omega))
  have X4 := hide (X3.out.grown hG (fun e => by injection e with e; omega))
  obtain ⟨G, hGe⟩ : ∃ G, w3.heap.size = G := ⟨_, rfl⟩
  have hXG : X < G := by rw [← hGe]; exact X4.out.lt
  have hmk1 := hmk w3
  obtain ⟨W4, hW4⟩ : ∃ V, w3.alloc (.cells ((List.replicate n (⟨0, 0, 0, 0, 0⟩ : Ins)).flatMap icell).toArray 64) = V := ⟨_, rfl⟩
  rw [hW4, hGe] at hmk1
  have K5 := hide (show JK w g l3 W4 by rw [← hW4]; exact K4.out.alloc _)
  have R5 := hide (show Row W4 w.heap.size 90 [.int .i64 0, .int .i64 0, .slice none 0 0] by rw [← hW4]; exact R4.out.alloc _)
  have X5 := hide (show Row W4 X 90 [.int .i64 P, .int .i64 S, .slice none 0 0] by rw [← hW4]; exact X4.out.alloc _)
  have G5 := hide (show Row W4 G 64 (icells (List.replicate n (⟨0, 0, 0, 0, 0⟩ : Ins))) by rw [← hW4, ← hGe]; exact Row.new w3 _ _)
  have y2 := X5.out.cell (k := 2) rfl
  have f2 := X5.out.free 2
  have FI := hide (show JFrI g G X n P S l3 w 0 (W4.setCell ⟨X, 2, none⟩ (.slice (some ⟨G, 0, none⟩) n n)) from ⟨K5.out.set (by omega) hg 2 _, X5.out.set_ 2 _, G5.out.far (p := ⟨X, 2, none⟩) (by simp; omega) _, R5.out.far (p := ⟨X, 2, none⟩) (by simp; omega) _⟩)
  obtain ⟨W6, hW6⟩ : ∃ V, W4.setCell ⟨X, 2, none⟩ (.slice (some ⟨G, 0, none⟩) n n) = V := ⟨_, rfl⟩
  have HW6 := hide hW6
  rw [hW6] at FI
  clear hR hG K3 R3 X3 K4 R4 X4 hmk cc hGe hW4 K5 R5 X5 G5 hW6
  go_upto_region 3 with (fail)
  rw [HW6.out]
  clear HW6 hmk1 y2 f2
  have y2 := FI.out.x.cell (k := 2) rfl
  go_wp2_with fail
  clear y2
  go_loopw [6, 21] (fun _ iv wr => ∃ i : Nat, i ≤ n ∧ iv = .int .i64 (i : Int) ∧ Hid (JFrI g G X n P S l3 w i wr)) (fun _ iv _ => n - (intOf iv).toNat)
  case atStart => exact ⟨0, Nat.zero_le _, rfl, FI⟩
  case round =>
    obtain ⟨i, hin, rfl, hF⟩ := hrel
    clear FI
    by_cases hlt : i < n
    · have hlz : (i : Int) < (n : Int) := by omega
      have hiz : (0 : Int) ≤ (i : Int) := by omega
      have y2 := hF.out.x.cell (k := 2) rfl
      have HSN := hide (timesL_snoc minsL i l3)
      have hL := timesL_len minsL i l3
      have ci := jinstr_any g (timesL minsL i l3).2 wr.drew (hide (hF.out.k.r.drewN 1))
      obtain ⟨L, hLL⟩ : ∃ L, (timesL minsL i l3).1 = L := ⟨_, rfl⟩
      obtain ⟨li, hli⟩ : ∃ x, (timesL minsL i l3).2 = x := ⟨_, rfl⟩
      rw [hLL, hli] at HSN
      rw [hLL] at hL
      rw [hli] at ci
      have KI := hide (show JK w g li wr by rw [← hli]; exact hF.out.k)
      have XI := hide hF.out.x
      have GI := hide (show Row wr G 64 (icells (L ++ List.replicate (n - i) (⟨0, 0, 0, 0, 0⟩ : Ins))) by rw [← hLL]; exact hF.out.r)
      have ZI := hide hF.out.z
      obtain ⟨x, hx⟩ : ∃ x, (minsL li).1 = x := ⟨_, rfl⟩
      obtain ⟨li2, hli2⟩ : ∃ x, (minsL li).2 = x := ⟨_, rfl⟩
      rw [hx, hli2] at HSN ci
      have HL := hide hL
      have hat := fill_at (z := (⟨0, 0, 0, 0, 0⟩ : Ins)) hL hlt
      clear hLL hli hx hli2 hF hL
      go_upto_region 6 with (fail)
      go_region_law
        (first
          | (go_simp; go_at_call 112; refine ci.mono ?_; rintro e w4 ⟨rfl, hR, hG⟩; have y3 := (XI.out.drew.grown hG (fun e => by injection e with e; omega)).cell (k := 2) rfl; have R4 := GI.out.drew.grown hG (fun e => by injection e with e; omega); have hrow := fun j hj => flat_at icell_len _ i _ hat j hj; have a0 := R4.cell (hrow 0 (by omega)); have a1 := R4.cell (hrow 1 (by omega)); have a2 := R4.cell (hrow 2 (by omega)); have a3 := R4.cell (hrow 3 (by omega)); have a4 := R4.cell (hrow 4 (by omega)); rw [Nat.add_zero] at a0; have z0 := R4.free (i * 5); have z1 := R4.free (i * 5 + 1); have z2 := R4.free (i * 5 + 2); have z3 := R4.free (i * 5 + 3); have z4 := R4.free (i * 5 + 4); clear hrow))
      all_goals
        have R6 := ((((R4.set_ (i * 5) (.int .i64 x.op)).set_ (i * 5 + 1) (.int .i64 x.a)).set_ (i * 5 + 2) (.int .i64 x.b)).set_ (i * 5 + 3) (.int .i64 x.c)).set_ (i * 5 + 4) (.int .u64 x.imm)
        rw [icells_set hat, fill_set HL.out hlt] at R6
        have hq : w.heap.size ≤ G := by omega
        have X4 := XI.out.drew.grown hG (fun e => by injection e with e; omega)
        have Z4 := ZI.out.drew.grown hG (fun e => by injection e with e; omega)
        have K4 : JK w g li2 w4 := (KI.out.drewN 1).to hR hG
        have HN := hide (show JFrI g G X n P S l3 w (i + 1) (((((w4.setCell ⟨G, i * 5, none⟩ (.int .i64 x.op)).setCell ⟨G, i * 5 + 1, none⟩ (.int .i64 x.a)).setCell ⟨G, i * 5 + 2, none⟩ (.int .i64 x.b)).setCell ⟨G, i * 5 + 3, none⟩ (.int .i64 x.c)).setCell ⟨G, i * 5 + 4, none⟩ (.int .u64 x.imm)) from by
          refine ⟨?_, ?_, ?_, ?_⟩
          · rw [HSN.out]
            exact ((((K4.set hq hg (i * 5) (.int .i64 x.op)).set hq hg (i * 5 + 1) (.int .i64 x.a)).set hq hg (i * 5 + 2) (.int .i64 x.b)).set hq hg (i * 5 + 3) (.int .i64 x.c)).set hq hg (i * 5 + 4) (.int .u64 x.imm)
          · exact ((((X4.far (p := ⟨G, i * 5, none⟩) (by simp; omega) _).far (p := ⟨G, i * 5 + 1, none⟩) (by simp; omega) _).far (p := ⟨G, i * 5 + 2, none⟩) (by simp; omega) _).far (p := ⟨G, i * 5 + 3, none⟩) (by simp; omega) _).far (p := ⟨G, i * 5 + 4, none⟩) (by simp; omega) _
          · rw [HSN.out]; exact R6
          · exact ((((Z4.far (p := ⟨G, i * 5, none⟩) (by simp; omega) _).far (p := ⟨G, i * 5 + 1, none⟩) (by simp; omega) _).far (p := ⟨G, i * 5 + 2, none⟩) (by simp; omega) _).far (p := ⟨G, i * 5 + 3, none⟩) (by simp; omega) _).far (p := ⟨G, i * 5 + 4, none⟩) (by simp; omega) _)
        clear hR hG R6 R4 hat X4 Z4 K4 KI XI GI ZI ci y2 y3 a0 a1 a2 a3 a4 z0 z1 z2 z3 z4 HSN HL
        go_wp2_with fail
        go_roundw
        case rel => exact ⟨i + 1, by omega, by go_num, HN⟩
        case measure => simp [intOf]; omega
    · have hi2 : n = i := by omega
      subst hi2
      have hlz : ¬ ((n : Int) < (n : Int)) := by omega
      have x0 := hF.out.x.cell (k := 0) rfl
      have x1 := hF.out.x.cell (k := 1) rfl
      have x2 := hF.out.x.cell (k := 2) rfl
      have r0 := hF.out.z.cell (k := 0) rfl
      have r1 := hF.out.z.cell (k := 1) rfl
      have r2 := hF.out.z.cell (k := 2) rfl
      have q0 := hF.out.z.free 0
      have q1 := hF.out.z.free 1
      have q2 := hF.out.z.free 2
      have hf := hide (((hF.out.z.set_ 0 (.int .i64 P)).set_ 1 (.int .i64 S)).set_ 2 (.slice (some ⟨G, 0, none⟩) n n))
      have KF := hide (((hF.out.k.set (Nat.le_refl w.heap.size) hg 0 (.int .i64 P)).set (Nat.le_refl w.heap.size) hg 1 (.int .i64 S)).set (Nat.le_refl w.heap.size) hg 2 (.slice (some ⟨G, 0, none⟩) n n))
      have GF := hide (show Row (((wr.setCell ⟨w.heap.size, 0, none⟩ (.int .i64 P)).setCell ⟨w.heap.size, 1, none⟩ (.int .i64 S)).setCell ⟨w.heap.size, 2, none⟩ (.slice (some ⟨G, 0, none⟩) n n)) G 64 (icells (timesL minsL n l3).1) from by
        have h := ((hF.out.r.far (p := ⟨w.heap.size, 0, none⟩) (by simp; omega) (.int .i64 P)).far (p := ⟨w.heap.size, 1, none⟩) (by simp; omega) (.int .i64 S)).far (p := ⟨w.heap.size, 2, none⟩) (by simp; omega) (.slice (some ⟨G, 0, none⟩) n n)
        rwa [Nat.sub_self, List.replicate_zero, List.append_nil] at h)
      have FIN := hide (show JFrPost g Al l w (.returned (.agg #[.int .i64 P, .int .i64 S, .slice (some ⟨G, 0, none⟩) n n])) (((wr.setCell ⟨w.heap.size, 0, none⟩ (.int .i64 P)).setCell ⟨w.heap.size, 1, none⟩ (.int .i64 S)).setCell ⟨w.heap.size, 2, none⟩ (.slice (some ⟨G, 0, none⟩) n n)) from by
        unfold JFrPost
        rw [HF.out]
        refine ⟨some ⟨G, 0, none⟩, n, n, rfl, ⟨rfl, rfl, timesL_len _ _ _, ⟨(fun e => by cases e), Nat.le_refl _, by show n ≤ 8796093022208; omega⟩, (fun a ha => by injection ha with ha; subst ha; show w.heap.size ≤ G; omega), fun j u hu => ⟨G, 0, rfl, GF.out.lt, by rw [Nat.zero_add]; exact GF.out.cell hu⟩⟩, KF.out.r, KF.out.g⟩)
      clear hlt hF GF KF
      go_wp2
      have f0 := hf.out.cell (k := 0) rfl
      have f1 := hf.out.cell (k := 1) rfl
      have f2 := hf.out.cell (k := 2) rfl
      exact bodyPost_ret (v := .agg #[.int .i64 P, .int .i64 S, .slice (some ⟨G, 0, none⟩) n n]) (by simp [results, Tryz.results78, go_sem, f0, f1, f2]) rfl FIN.out
end Go.Proofs.YtlcmcmocjbeocaaGreatDoor
end

section
/-
  The program's read: a target and a bound of any bytes. Conditions: from 5 to 2^20 bytes.
-/
namespace Go.Proofs.YtlcmcmocjbeocaaGreatDoor
open Go.RowKit

theorem jinfo_frame : (Tryz.prog.info? 90).map (fun i => (i.zero, i.size, i.bytes)) = some (some (.agg #[.int .i64 0, .int .i64 0, .slice none 0 0]), 3, 40) := by kernel_rfl
theorem fdcells_set {l : List Fd} {i : Nat} {x : Fd} (h : l[i]? = some x) (p s : Int) (a : Option Addr) (n c : Nat) :
    (((fdcells l).set (i * 3) (.int .i64 p)).set (i * 3 + 1) (.int .i64 s)).set (i * 3 + 2) (.slice a n c) = fdcells (l.set i ⟨p, s, a, n, c⟩) := by
  have hk : i < l.length := (List.getElem?_eq_some_iff.1 h).1
  have s0 := flat_set fdcell_len l i x ⟨p, x.s, x.a, x.n, x.c⟩ h 0 (by omega) (.int .i64 p) rfl
  have s1 := flat_set fdcell_len (l.set i ⟨p, x.s, x.a, x.n, x.c⟩) i ⟨p, x.s, x.a, x.n, x.c⟩ ⟨p, s, x.a, x.n, x.c⟩ (by rw [List.getElem?_set_self hk]) 1 (by omega) (.int .i64 s) rfl
  have s2 := flat_set fdcell_len (l.set i ⟨p, s, x.a, x.n, x.c⟩) i ⟨p, s, x.a, x.n, x.c⟩ ⟨p, s, a, n, c⟩ (by rw [List.getElem?_set_self hk]) 2 (by omega) (.slice a n c) rfl
  rw [List.set_set] at s1 s2
  unfold fdcells
  rw [Nat.add_zero] at s0
  rw [s0, s1, s2]
theorem Fds.snoc {w : World} {lo B : Nat} {hs : List Fd} {F : Tg} {h : Fd} {f : Fm} (H : Fds w lo B hs F) (h1 : FdAt w lo B h f) : Fds w lo B (hs ++ [h]) (F ++ [f]) := by
  refine ⟨by rw [List.length_append, List.length_append, H.len]; rfl, fun k h' f' e1 e2 => ?_⟩
  by_cases hk : k < hs.length
  · rw [List.getElem?_append_left hk] at e1
    rw [List.getElem?_append_left (by rw [← H.len]; exact hk)] at e2
    exact H.at_ k h' f' e1 e2
  · rw [List.getElem?_append_right (by omega)] at e1
    rw [List.getElem?_append_right (by rw [← H.len]; omega), ← H.len] at e2
    cases hd : k - hs.length with
    | zero =>
      rw [hd] at e1 e2
      injection e1 with e1
      injection e2 with e2
      subst e1 e2
      exact h1
    | succ m =>
      rw [hd] at e1
      simp at e1
theorem Fds.grown {w w' : World} {lo B g : Nat} {hs : List Fd} {F : Tg} (H : Fds w lo B hs F) (hg : w.grownBy w' (some g)) (hlo : g < lo) (hB : B ≤ w.heap.size) : Fds w' lo B hs F := ⟨H.len, fun k h f e1 e2 => (H.at_ k h f e1 e2).grown hg hlo hB⟩
/-- Every Imm field that is read is a number of 64 bits. -/
theorem wordR_byt {l r : List Int} {v : Nat} (hz : Byt l) (h : wordR l = .ok v r) : Byt r := by
  have e := (wordR_ok hz h).1
  rw [e] at hz
  exact hz.right
theorem wordL_byt {l : List Int} (hz : Byt l) : Byt (wordL l).2 := by
  unfold wordL
  rcases hm : wordR l with x | ⟨v, r⟩
  · exact hz
  · exact wordR_byt hz hm
theorem opL_byt {l : List Int} (hz : Byt l) : Byt (opL l).2 := by
  cases l with
  | nil => exact Byt.nil_
  | cons z r => exact fun y hy => hz y (List.mem_cons_of_mem _ hy)
theorem nRest_byt {l : List Int} (hz : Byt l) : ∀ i, Byt (nRest l i)
  | 0 => hz
  | i + 1 => wordL_byt (nRest_byt hz i)
theorem minsL_imm {l : List Int} (hz : Byt l) : (0 ≤ (minsL l).1.imm ∧ (minsL l).1.imm ≤ 18446744073709551615) ∧ Byt (minsL l).2 := by
  have h1 := nRest_byt (opL_byt hz) (mcnt (opL l).1)
  have h2 := wordL_le h1
  unfold minsL
  simp only
  split
  · exact ⟨by omega, wordL_byt h1⟩
  · exact ⟨by omega, h1⟩
theorem timesL_all {α : Type} {p : List Int → α × List Int} {Q : α → Prop} (h : ∀ l, Byt l → Q (p l).1 ∧ Byt (p l).2) : ∀ (n : Nat) (l : List Int), Byt l → (∀ a ∈ (timesL p n l).1, Q a) ∧ Byt (timesL p n l).2
  | 0, l, hz => ⟨(fun a ha => by cases ha), hz⟩
  | n + 1, l, hz => by
    obtain ⟨h1, h2⟩ := h l hz
    obtain ⟨h3, h4⟩ := timesL_all h n _ h2
    exact ⟨fun a ha => by
      rcases List.mem_cons.1 ha with rfl | ha
      · exact h1
      · exact h3 a ha, h4⟩
theorem tgL_imm {l : List Int} (hz : Byt l) : ImmT (tgL l).1.2.2 := by
  have h := (timesL_all (p := frL ((2 : Int) ^ (limL 24 l).1)) (Q := fun f => ∀ x ∈ f.code, 0 ≤ x.imm ∧ x.imm ≤ 18446744073709551615) (fun l hz => by
    have h2 := timesL_all (p := minsL) (Q := fun x => 0 ≤ x.imm ∧ x.imm ≤ 18446744073709551615) (fun l hz => minsL_imm hz) (limL 1024 (numL (numL l).2).2).1 (limL 1024 (numL (numL l).2).2).2 (wordL_byt (wordL_byt (wordL_byt hz)))
    exact h2) (limL 80 (numL (limL 24 l).2).2).1 (limL 80 (numL (limL 24 l).2).2).2 (wordL_byt (wordL_byt (wordL_byt hz)))).1
  exact h
/-- What read leaves. -/
def JRePost (zs : List Int) (w : World) (e : Ending) (w' : World) : Prop :=
  ∃ (A : Option Addr) (n c : Nat) (hs : List Fd), e = .returned (.tuple #[.agg #[.int .i64 (tgL (zs.drop 4)).1.1, .slice A n c], .int .i64 (tgL (zs.drop 4)).1.2.1]) ∧ TgAt w' w.heap.size w'.heap.size A n c hs (tgL (zs.drop 4)).1.2.2 ∧ Below w.heap.size w w'
/-- What the loop over the frames keeps. -/
structure JReI (w W : World) (g G T n : Nat) (Al : Int) (l : List Int) (i : Nat) (wr : World) : Prop where
  k : JK W g (timesL (frL Al) i l).2 wr
  t : Row wr T 53 [.int .i64 Al, .slice (some ⟨G, 0, none⟩) n n]
  r : ∃ hs : List Fd, hs.length = i ∧ Row wr G 90 (fdcells (hs ++ List.replicate (n - i) ⟨0, 0, none, 0, 0⟩)) ∧ Fds wr (G + 1) wr.heap.size hs (timesL (frL Al) i l).1
  z : Row wr w.heap.size 53 [.int .i64 0, .slice none 0 0]

set_option maxRecDepth 100000 in
set_option maxHeartbeats 4000000 in
theorem jread_any (b off n0 c0 : Nat) (zs : List Int) (w : World) (h5 : 5 ≤ n0) (hmost : n0 ≤ 1048576) (hB : Hid (BsAt w w.heap.size (some ⟨b, off, none⟩) n0 c0 zs)) :
    Calls Tryz.prog 45 #[.slice (some ⟨b, off, none⟩) n0 c0] w (JRePost zs w) := by
  obtain ⟨i0, hi, hz0, hz1, hz2⟩ := info_parts jinfo_frame
  have hnc := hB.out.nc
  have hcm := hB.out.cm
  obtain ⟨l, hl⟩ : ∃ l, zs.drop 4 = l := ⟨_, rfl⟩
  obtain ⟨l1, hl1⟩ : ∃ x, (limL 24 l).2 = x := ⟨_, rfl⟩
  obtain ⟨k, hk⟩ : ∃ x, (limL 24 l).1 = x := ⟨_, rfl⟩
  obtain ⟨l2, hl2⟩ : ∃ x, (numL l1).2 = x := ⟨_, rfl⟩
  obtain ⟨bd, hbd⟩ : ∃ x, (numL l1).1 = x := ⟨_, rfl⟩
  obtain ⟨l3, hl3⟩ : ∃ x, (limL 80 l2).2 = x := ⟨_, rfl⟩
  obtain ⟨n, hn⟩ : ∃ x, (limL 80 l2).1 = x := ⟨_, rfl⟩
  have hk24 : k ≤ 24 := by rw [← hk]; exact Nat.min_le_right _ _
  have hn80 : n ≤ 80 := by rw [← hn]; exact Nat.min_le_right _ _
  have HF := hide (show (tgL (zs.drop 4)).1 = ((2 : Int) ^ k, bd, (timesL (frL ((2 : Int) ^ k)) n l3).1) by rw [hl, ← hn, ← hl3, ← hbd, ← hl2, ← hk, ← hl1]; rfl)
  have PW := hide (pow_wrap hk24)
  obtain ⟨Al, hAl⟩ : ∃ x, (2 : Int) ^ k = x := ⟨_, rfl⟩
  rw [hAl] at HF PW
  have hmk := make_flat (P := Tryz.prog) (f := fdcell) (a := (⟨0, 0, none, 0, 0⟩ : Fd)) Tryz.underlying51 hi hz0 hz1 fdcell_len rfl n (by rw [hz2]; omega) (by omega)
  obtain ⟨W, hW⟩ : ∃ W, (w.alloc (.cells #[.int .i64 0, .slice none 0 0] 53)).alloc (.cells #[.slice (some ⟨b, off + 4, none⟩) (n0 - 4) (c0 - 4)] 136) = W := ⟨_, rfl⟩
  have HW := hide hW
  obtain ⟨g, hg⟩ : ∃ g, w.heap.size + 1 = g := ⟨_, rfl⟩
  have Z0 := hide (show Row W w.heap.size 53 [.int .i64 0, .slice none 0 0] by rw [← hW]; exact (Row.new w _ _).alloc _)
  have HBW := hide (show Below w.heap.size w W by rw [← hW]; exact below2 w _ _)
  have hWs : W.heap.size = g + 1 := by rw [← hW, ← hg]; simp
  have JR0 := hide (show JR W g l from ⟨b, off + 4, n0 - 4, c0 - 4, by rw [← hW, ← hg]; exact (Row.new _ _ _).at_ (by simp), by rw [← hl, List.length_drop, hB.out.len], by omega, by omega, by omega, by rw [← hl]; exact hB.out.byt.drop 4, by
    have hs := ((hB.out.see.below HBW.out).drop 4)
    rw [show (cellsU8 zs).drop 4 = cellsU8 (zs.drop 4) by simp [cellsU8], show (some (⟨b, off, none⟩ : Addr)).map (·.add 4) = some ⟨b, off + 4, none⟩ by simp [WideShapes.add_plain], hl] at hs
    exact hs.more (by omega)⟩)
  have ca := jlim_any g 24 l W JR0 (by omega)
  have cb := fun w h => jnum_any g l1 w h
  have cc := fun w h => jlim_any g 80 l2 w h (by omega)
  rw [hl1, hk, show ((24 : Nat) : Int) = 24 from rfl] at ca
  rw [hl2, hbd] at cb
  rw [hl3, hn, show ((80 : Nat) : Int) = 80 from rfl] at cc
  have HG := hide hg
  have hc4 : ¬ c0 = 4 := by omega
  have hkz : (0 : Int) ≤ (k : Int) := by omega
  have hkz2 : (k : Int) ≤ 24 := by omega
  clear hW hl1 hk hl2 hbd hl3 hn hl hB
  go_enter Tryz.func45, Tryz.ntmps45
  go_upto_region 2 with (fail)
  rw [HW.out]
  clear HW hg hnc hcm hc4
  go_wp2_with fail
  refine ca.mono ?_
  rintro e w1 ⟨rfl, hR, hG⟩
  have K1 := hide (show JK W g l1 w1 from ⟨hR, hG⟩)
  have hgW : g < W.heap.size := by omega
  have hgw : w.heap.size ≠ g := by have := HG.out; omega
  have Z1 := hide (Z0.out.grown hG (fun e => hgw (by injection e)))
  obtain ⟨T, hT⟩ : ∃ T, w1.heap.size = T := ⟨_, rfl⟩
  have HT := hide hT
  have hgT : g < T := by rw [← hT]; exact Nat.lt_of_lt_of_le hgW hG.size
  have hWT : W.heap.size ≤ T := by rw [← hT]; exact hG.size
  obtain ⟨W2, hW2⟩ : ∃ V, w1.alloc (.cells #[.int .i64 Al, .slice none 0 0] 53) = V := ⟨_, rfl⟩
  have HW2 := hide hW2
  have K2 := hide (show JK W g l1 W2 by rw [← hW2]; exact K1.out.alloc _)
  have Z2 := hide (show Row W2 w.heap.size 53 [.int .i64 0, .slice none 0 0] by rw [← hW2]; exact Z1.out.alloc _)
  have T2 := hide (show Row W2 T 53 [.int .i64 Al, .slice none 0 0] by rw [← hW2, ← hT]; exact Row.new w1 53 [.int .i64 Al, .slice none 0 0])
  clear hR hG ca hT hW2 K1 Z0 Z1 JR0
  have hAl2 := hide hAl
  clear hAl
  go_upto_region 3 with (fail)
  rw [hAl2.out, PW.out, HW2.out, HT.out]
  clear HW2 HT PW
  go_wp2_with fail
  refine (cb W2 (hide K2.out.r)).mono ?_
  rintro e w2 ⟨rfl, hR, hG⟩
  have K3 := hide (K2.out.to hR hG)
  have Z3 := hide (Z2.out.grown hG (fun e => hgw (by injection e)))
  have T3 := hide (T2.out.grown hG (fun e => by injection e with e; omega))
  clear hR hG cb K2 Z2 T2
  go_wp2_with fail
  refine (cc w2 (hide K3.out.r)).mono ?_
  rintro e w3 ⟨rfl, hR, hG⟩
  have K4 := hide (K3.out.to hR hG)
  have Z4 := hide (Z3.out.grown hG (fun e => hgw (by injection e)))
  have T4 := hide (T3.out.grown hG (fun e => by injection e with e; omega))
  obtain ⟨G, hGe⟩ : ∃ G, w3.heap.size = G := ⟨_, rfl⟩
  have hTG : T < G := by rw [← hGe]; exact T4.out.lt
  have hmk1 := hmk w3
  obtain ⟨W4, hW4⟩ : ∃ V, w3.alloc (.cells ((List.replicate n (⟨0, 0, none, 0, 0⟩ : Fd)).flatMap fdcell).toArray 90) = V := ⟨_, rfl⟩
  rw [hW4, hGe] at hmk1
  have K5 := hide (show JK W g l3 W4 by rw [← hW4]; exact K4.out.alloc _)
  have Z5 := hide (show Row W4 w.heap.size 53 [.int .i64 0, .slice none 0 0] by rw [← hW4]; exact Z4.out.alloc _)
  have T5 := hide (show Row W4 T 53 [.int .i64 Al, .slice none 0 0] by rw [← hW4]; exact T4.out.alloc _)
  have G5 := hide (show Row W4 G 90 (fdcells (List.replicate n (⟨0, 0, none, 0, 0⟩ : Fd))) by rw [← hW4, ← hGe]; exact Row.new w3 _ _)
  have y1 := T5.out.cell (k := 1) rfl
  have f1 := T5.out.free 1
  have hZ : w.heap.size < T := by have := HG.out; omega
  have FI := hide (show JReI w W g G T n Al l3 0 (W4.setCell ⟨T, 1, none⟩ (.slice (some ⟨G, 0, none⟩) n n)) from ⟨K5.out.set hWT hgW 1 _, T5.out.set_ 1 _, ⟨[], rfl, G5.out.far (p := ⟨T, 1, none⟩) (by simp; omega) _, ⟨rfl, fun k h f e _ => by simp at e⟩⟩, Z5.out.far (p := ⟨T, 1, none⟩) (by simp; omega) _⟩)
  obtain ⟨W6, hW6⟩ : ∃ V, W4.setCell ⟨T, 1, none⟩ (.slice (some ⟨G, 0, none⟩) n n) = V := ⟨_, rfl⟩
  have HW6 := hide hW6
  rw [hW6] at FI
  clear hR hG K3 Z3 T3 K4 Z4 T4 hmk cc hGe hW4 K5 Z5 T5 G5 hW6
  go_upto_region 5 with (fail)
  rw [HW6.out]
  clear HW6 hmk1 y1 f1
  have y1 := FI.out.t.cell (k := 1) rfl
  go_wp2_with fail
  clear y1
  go_loopw [7, 21] (fun _ iv wr => ∃ i : Nat, i ≤ n ∧ iv = .int .i64 (i : Int) ∧ Hid (JReI w W g G T n Al l3 i wr)) (fun _ iv _ => n - (intOf iv).toNat)
  case atStart => exact ⟨0, Nat.zero_le _, rfl, FI⟩
  case round =>
    obtain ⟨i, hin, rfl, hF⟩ := hrel
    clear FI
    by_cases hlt : i < n
    · have hlz : (i : Int) < (n : Int) := by omega
      have hiz : (0 : Int) ≤ (i : Int) := by omega
      have y0 := hF.out.t.cell (k := 0) rfl
      have y1 := hF.out.t.cell (k := 1) rfl
      have HSN := hide (timesL_snoc (frL Al) i l3)
      have ci := jframe_any g Al (timesL (frL Al) i l3).2 wr.drew (hide (hF.out.k.r.drewN 1))
      obtain ⟨hs, hhl, hrow, hfds⟩ := hF.out.r
      obtain ⟨L, hLL⟩ : ∃ L, (timesL (frL Al) i l3).1 = L := ⟨_, rfl⟩
      obtain ⟨li, hli⟩ : ∃ x, (timesL (frL Al) i l3).2 = x := ⟨_, rfl⟩
      rw [hLL, hli] at HSN
      rw [hli] at ci
      rw [hLL] at hfds
      have KI := hide (show JK W g li wr by rw [← hli]; exact hF.out.k)
      have TI := hide hF.out.t
      have GI := hide hrow
      have ZI := hide hF.out.z
      have DI := hide hfds
      have HL := hide hhl
      have hat := fill_at (z := (⟨0, 0, none, 0, 0⟩ : Fd)) hhl hlt
      obtain ⟨x, hx⟩ : ∃ x, frL Al li = x := ⟨_, rfl⟩
      unfold JFrPost at ci
      rw [hx] at HSN ci
      clear hLL hli hx hF hrow hfds hhl
      go_upto_region 8 with (fail)
      go_region_law
        (first
          | (go_simp; go_at_call 78; refine ci.mono ?_; rintro e w4 ⟨A1, n1, c1, rfl, hfd, hR, hG⟩; have y3 := (TI.out.drew.grown hG (fun e => by injection e with e; omega)).cell (k := 1) rfl; have R4 := GI.out.drew.grown hG (fun e => by injection e with e; omega); have hrow := fun j hj => flat_at fdcell_len _ i _ hat j hj; have a0 := R4.cell (hrow 0 (by omega)); have a1 := R4.cell (hrow 1 (by omega)); have a2 := R4.cell (hrow 2 (by omega)); rw [Nat.add_zero] at a0; have z0 := R4.free (i * 3); have z1 := R4.free (i * 3 + 1); have z2 := R4.free (i * 3 + 2); clear hrow))
      all_goals
        have R6 := ((R4.set_ (i * 3) (.int .i64 x.1.params)).set_ (i * 3 + 1) (.int .i64 x.1.size)).set_ (i * 3 + 2) (.slice A1 n1 c1)
        rw [fdcells_set hat, fill_set HL.out hlt] at R6
        have hq : W.heap.size ≤ G := by omega
        have hwr : wr.drew.heap.size = wr.heap.size := rfl
        have hGr : G < wr.heap.size := GI.out.lt
        have T4 := TI.out.drew.grown hG (fun e => by injection e with e; omega)
        have Z4 := ZI.out.drew.grown hG (fun e => hgw (by injection e))
        have K4 : JK W g x.2 w4 := (KI.out.drewN 1).to hR hG
        have D4 : Fds w4 (G + 1) w4.heap.size (hs ++ [⟨x.1.params, x.1.size, A1, n1, c1⟩]) (L ++ [x.1]) := by
          have D0 : Fds wr.drew (G + 1) wr.drew.heap.size hs L := DI.out.keep fun _ _ _ => rfl
          exact ((D0.grown hG (by omega) (Nat.le_refl _)).more hG.size (Nat.le_refl _)).snoc (hfd.more (Nat.le_refl _) (by omega))
        have HN := hide (show JReI w W g G T n Al l3 (i + 1) (((w4.setCell ⟨G, i * 3, none⟩ (.int .i64 x.1.params)).setCell ⟨G, i * 3 + 1, none⟩ (.int .i64 x.1.size)).setCell ⟨G, i * 3 + 2, none⟩ (.slice A1 n1 c1)) from by
          refine ⟨?_, ?_, ⟨hs ++ [⟨x.1.params, x.1.size, A1, n1, c1⟩], by rw [List.length_append, HL.out]; rfl, R6, ?_⟩, ?_⟩
          · rw [HSN.out]
            exact ((K4.set hq hgW (i * 3) (.int .i64 x.1.params)).set hq hgW (i * 3 + 1) (.int .i64 x.1.size)).set hq hgW (i * 3 + 2) (.slice A1 n1 c1)
          · exact ((T4.far (p := ⟨G, i * 3, none⟩) (by simp; omega) _).far (p := ⟨G, i * 3 + 1, none⟩) (by simp; omega) _).far (p := ⟨G, i * 3 + 2, none⟩) (by simp; omega) _
          · rw [HSN.out]
            refine (D4.keep fun p h1 _ => ?_).more (by simp [World.setCell]) (Nat.le_refl _)
            have hne : ∀ j, p ≠ ⟨G, j, none⟩ := fun j e => by subst e; simp at h1; omega
            rw [World.cell?_setCell_other _ _ _ _ (fun e => hne _ e.symm), World.cell?_setCell_other _ _ _ _ (fun e => hne _ e.symm), World.cell?_setCell_other _ _ _ _ (fun e => hne _ e.symm)]
          · exact ((Z4.far (p := ⟨G, i * 3, none⟩) (by simp; omega) _).far (p := ⟨G, i * 3 + 1, none⟩) (by simp; omega) _).far (p := ⟨G, i * 3 + 2, none⟩) (by simp; omega) _)
        clear hR hG R6 R4 hat T4 Z4 K4 D4 KI TI GI ZI DI ci y0 y1 y3 a0 a1 a2 z0 z1 z2 HSN HL hfd
        go_wp2_with fail
        go_roundw
        case rel => exact ⟨i + 1, by omega, by go_num, HN⟩
        case measure => simp [intOf]; omega
    · have hi2 : n = i := by omega
      subst hi2
      have hlz : ¬ ((n : Int) < (n : Int)) := by omega
      have x0 := hF.out.t.cell (k := 0) rfl
      have x1 := hF.out.t.cell (k := 1) rfl
      have r0 := hF.out.z.cell (k := 0) rfl
      have r1 := hF.out.z.cell (k := 1) rfl
      have q0 := hF.out.z.free 0
      have q1 := hF.out.z.free 1
      obtain ⟨hs, hhl, hrow, hfds⟩ := hF.out.r
      rw [Nat.sub_self, List.replicate_zero, List.append_nil] at hrow
      have hgr := hF.out.k.g
      have hf := hide ((hF.out.z.set_ 0 (.int .i64 Al)).set_ 1 (.slice (some ⟨G, 0, none⟩) n n))
      have hZw : w.heap.size < G + 1 := by omega
      have FIN := hide (show JRePost zs w (.returned (.tuple #[.agg #[.int .i64 Al, .slice (some ⟨G, 0, none⟩) n n], .int .i64 bd])) ((wr.setCell ⟨w.heap.size, 0, none⟩ (.int .i64 Al)).setCell ⟨w.heap.size, 1, none⟩ (.slice (some ⟨G, 0, none⟩) n n)) from by
        unfold JRePost
        rw [HF.out]
        have GR := (hrow.far (p := ⟨w.heap.size, 0, none⟩) (by simp; omega) (.int .i64 Al)).far (p := ⟨w.heap.size, 1, none⟩) (by simp; omega) (.slice (some ⟨G, 0, none⟩) n n)
        refine ⟨some ⟨G, 0, none⟩, n, n, hs, rfl, ⟨timesL_len _ _ _, ⟨(fun e => by cases e), Nat.le_refl _, by show n ≤ 8796093022208; omega⟩, (fun a ha => by injection ha with ha; subst ha; show w.heap.size ≤ G; omega), fun j u hu => ⟨G, 0, rfl, GR.lt, by rw [Nat.zero_add]; exact GR.cell hu⟩, ?_⟩, ?_⟩
        · refine ((hfds.keep fun p h1 _ => ?_).more (by simp [World.setCell]) (Nat.le_refl _)).more (Nat.le_refl _) (show w.heap.size ≤ G + 1 by omega)
          have hne : ∀ j, p ≠ ⟨w.heap.size, j, none⟩ := fun j e => by subst e; simp at h1; omega
          rw [World.cell?_setCell_other _ _ _ _ (fun e => hne _ e.symm), World.cell?_setCell_other _ _ _ _ (fun e => hne _ e.symm)]
        · have h0 : Below w.heap.size w wr := HBW.out.grown hgr HBW.out.size (fun k hk => by injection hk with hk; have := HG.out; omega)
          exact (h0.setCell (p := ⟨w.heap.size, 0, none⟩) (by simp) _).setCell (p := ⟨w.heap.size, 1, none⟩) (by simp) _)
      clear hlt hF hrow hfds hgr hhl
      go_wp2
      have f0 := hf.out.cell (k := 0) rfl
      have f1 := hf.out.cell (k := 1) rfl
      exact bodyPost_ret (v := .tuple #[.agg #[.int .i64 Al, .slice (some ⟨G, 0, none⟩) n n], .int .i64 bd]) (by simp [results, Tryz.results45, go_sem, f0, f1]) rfl FIN.out
end Go.Proofs.YtlcmcmocjbeocaaGreatDoor
end
