import Derived.Test.YtjgoldlebmfiiaaMKb
import Derived.Test.YtjgoldlebmfiiaaMKa
import Derived.Outline
import Derived.Laws.OwnMore
set_option linter.unusedVariables false
set_option linter.unusedSimpArgs false
section
/-
  The contracts of slices.Index and slices.Contains at error codes. Conditions: those of the types.
-/
namespace Go.Proofs.Ytjgoldlebmfiiaa
open Go.RowKit

/-- Ints as cells. -/
def cellsE (zs : List Int) : List Value := zs.map (Value.int .i64)
theorem cellsE_length (zs : List Int) : (cellsE zs).length = zs.length := by simp [cellsE]
theorem err_at {w : World} {B : Nat} {A : Option Addr} {zs : List Int} {k : Nat} (h : Sees w B A (cellsE zs)) (hk : k < zs.length) : ∃ b off, A = some ⟨b, off, none⟩ ∧ b < B ∧ w.cell? ⟨b, off + k, none⟩ = some (.int .i64 zs[k]) :=
  h k (.int .i64 zs[k]) (by simp [cellsE, List.getElem?_map, List.getElem?_eq_getElem hk])
def IdxPost (zs : List Int) (x : Int) (w : World) (e : Ending) (w' : World) : Prop := ∃ i : Int, e = .returned (.int .i64 i) ∧ decide (0 ≤ i) = zs.contains x ∧ w = w'
set_option maxHeartbeats 400000 in
theorem eidx_any (A : Option Addr) (n c : Nat) (zs : List Int) (x : Int) (B : Nat) (w : World) (hn : Hid (zs.length = n)) (hm : n ≤ 4611686018427387904) (h : Hid (Sees w B A (cellsE zs))) :
    Calls Try.prog 74 #[.slice A n c, .int .i64 x] w (IdxPost zs x w) := by
  go_enter Try.func74, Try.ntmps74
  go_wp2_with fail
  go_loop [8] (fun i => ∃ k : Nat, k ≤ n ∧ i = .int .i64 k ∧ Hid (∀ j (hj : j < zs.length), j < k → zs[j] ≠ x)) (fun i => n - (intOf i).toNat)
  case atStart => exact ⟨0, by omega, rfl, hide fun j hj h => by omega⟩
  case round =>
    obtain ⟨k, hk, rfl, hno⟩ := hrel
    by_cases hlt : k < n
    · have hltz : (k : Int) < (n : Int) := by omega
      have hkz : (0 : Int) ≤ (k : Int) := by omega
      have hkl : k < zs.length := by have := hn.out; omega
      obtain ⟨b, off, rfl, _, c0⟩ := err_at h.out hkl
      have hit : Hid (zs[k] = x → zs.contains x = true) := hide fun e => by rw [List.contains_iff_mem]; exact e ▸ List.getElem_mem hkl
      obtain ⟨y, hy⟩ : ∃ y, zs[k] = y := ⟨_, rfl⟩
      rw [hy] at c0 hit
      have HY := hide hy
      clear hy
      by_cases hxy : x = y
      · subst hxy
        have hh := hide (hit.out rfl)
        go_wp2_with fail
        go_ret
        exact ⟨_, rfl, by rw [hh.out]; simp, rfl⟩
      · have hne : (x == y) = false := by simpa using hxy
        have hne' : Hid (y ≠ x) := hide fun e => hxy e.symm
        clear hxy hit
        go_wp2_with fail
        go_round
        case rel =>
          refine ⟨k + 1, by omega, by go_num, hide fun j hj hjk => ?_⟩
          by_cases e : j = k
          · subst e; rw [HY.out]; exact hne'.out
          · exact hno.out j hj (by omega)
        case measure => simp [intOf]; omega
    · obtain rfl : k = n := by omega
      have hh : Hid (zs.contains x = false) := hide (by
        rw [Bool.eq_false_iff, ne_eq, List.contains_iff_mem]
        intro hx
        obtain ⟨j, hj, e⟩ := List.mem_iff_getElem.1 hx
        exact hno.out j hj (by have := hn.out; omega) e)
      go_wp2_with fail
      go_ret
      exact ⟨_, rfl, by rw [hh.out]; rfl, rfl⟩
theorem econt_any (A : Option Addr) (n c : Nat) (zs : List Int) (x : Int) (B : Nat) (w : World) (hn : Hid (zs.length = n)) (hm : n ≤ 4611686018427387904) (h : Hid (Sees w B A (cellsE zs))) :
    Calls Try.prog 61 #[.slice A n c, .int .i64 x] w fun e w' => e = .returned (.bool (zs.contains x)) ∧ w = w' := by
  go_enter Try.func61, Try.ntmps61
  go_wp2_with fail
  refine (eidx_any A n c zs x B _ hn hm h).mono ?_
  rintro e w' ⟨i, rfl, hi, rfl⟩
  have HI := hide hi
  clear hi
  go_wp2_with fail
  go_ret
  exact ⟨ret_bool HI.out, rfl⟩
end Go.Proofs.Ytjgoldlebmfiiaa
end

section
/-
  Boxes, one behind the other. No function of the program is named here.
-/
namespace Go.Proofs.Ytjgoldlebmfiiaa
open Go.RowKit

theorem below4 (w : World) (o p q r : Obj) : Below w.heap.size w ((((w.alloc o).alloc p).alloc q).alloc r) := (below3 w o p q).alloc (by simp; omega) _
/-- Three boxes, one behind the other. -/
theorem boxes3 (w : World) (l1 l2 l3 : List Value) (t1 t2 t3 : TypeId) : ∃ W, ((w.alloc (.cells l1.toArray t1)).alloc (.cells l2.toArray t2)).alloc (.cells l3.toArray t3) = W ∧ Below w.heap.size w W ∧ w.heap.size + 3 = W.heap.size ∧
    Row W w.heap.size t1 l1 ∧ Row W (w.heap.size + 1) t2 l2 ∧ Row W (w.heap.size + 1 + 1) t3 l3 := by
  refine ⟨_, rfl, below3 _ _ _ _, by simp, ((Row.new w t1 l1).alloc _).alloc _, (Row.alloc ?_ _), ?_⟩
  · exact heap_at _ _ (by simp)
  · exact heap_at _ _ (by simp)

/-- Four boxes, one behind the other. -/
theorem boxes4 (w : World) (l1 l2 l3 l4 : List Value) (t1 t2 t3 t4 : TypeId) : ∃ W, (((w.alloc (.cells l1.toArray t1)).alloc (.cells l2.toArray t2)).alloc (.cells l3.toArray t3)).alloc (.cells l4.toArray t4) = W ∧ Below w.heap.size w W ∧ w.heap.size + 4 = W.heap.size ∧
    Row W w.heap.size t1 l1 ∧ Row W (w.heap.size + 1) t2 l2 ∧ Row W (w.heap.size + 1 + 1) t3 l3 ∧ Row W (w.heap.size + 1 + 1 + 1) t4 l4 := by
  refine ⟨_, rfl, below4 _ _ _ _ _, by simp, (((Row.new w t1 l1).alloc _).alloc _).alloc _, (Row.alloc (Row.alloc ?_ _) _), (Row.alloc ?_ _), ?_⟩
  · exact heap_at _ _ (by simp)
  · exact heap_at _ _ (by simp)
  · exact heap_at _ _ (by simp)

/-- Two boxes, one behind the other. -/
theorem boxes2q (w : World) (l1 l2 : List Value) (t1 t2 : TypeId) : ∃ W, (w.alloc (.cells l1.toArray t1)).alloc (.cells l2.toArray t2) = W ∧ Below w.heap.size w W ∧ w.heap.size + 2 = W.heap.size ∧ Row W w.heap.size t1 l1 ∧ Row W (w.heap.size + 1) t2 l2 := by
  refine ⟨_, rfl, below2 _ _ _, by simp, (Row.new w t1 l1).alloc _, ?_⟩
  exact heap_at _ _ (by simp)
end Go.Proofs.Ytjgoldlebmfiiaa
end

section
/-
  Programs of which one function has been changed: in memory, and as lists. No function of the program is named here.
-/
namespace Go.Proofs.Ytjgoldlebmfiiaa
open Go.RowKit

section
variable {w w' : World} {lo lo' B B' n c n' c' i : Nat} {A A' : Option Addr} {hs : List Hd} {F : Pg} {h : Hd} {f : Fn}
/-- One head set anew. -/
theorem PgAt.set (H : PgAt w lo B A n c hs F) (hk : ∀ p : Addr, lo ≤ p.block → p.block < B → w'.cell? p = w.cell? p) (hB : B ≤ B') (hlo : lo' ≤ lo) (hcap : Cap A' n c') (hfar : Far lo' A') (hs' : Sees w' B' A' (hcells (hs.set i h))) (hh : HdAt w' lo' B' h f) : PgAt w' lo' B' A' n c' (hs.set i h) (F.set i f) := by
  refine ⟨by rw [List.length_set]; exact H.len, hcap, hfar, hs', ⟨by rw [List.length_set, List.length_set]; exact H.hd.len, fun k h2 f2 e1 e2 => ?_⟩⟩
  by_cases e : i = k
  · subst e
    have l1 : i < hs.length := by
      rcases Nat.lt_or_ge i hs.length with h1 | h1
      · exact h1
      · rw [List.getElem?_eq_none (by rw [List.length_set]; exact h1)] at e1; cases e1
    have l2 : i < F.length := by rw [← H.hd.len]; exact l1
    rw [List.getElem?_set_self l1] at e1
    rw [List.getElem?_set_self l2] at e2
    injection e1 with e1
    injection e2 with e2
    subst e1 e2
    exact hh
  · rw [List.getElem?_set_ne e] at e1 e2
    exact ((H.hd.at_ k h2 f2 e1 e2).keep hk).more hB hlo
end

/-- The stores of heads into a row of heads. -/
theorem hset2 (hs : List Hd) (i : Nat) (h : Hd) (hx : hs[i]? = some h) (A : Option Addr) (n c : Nat) : (hcells hs).set (i * 3 + 2) (.slice A n c) = hcells (hs.set i ⟨h.p, h.a1, h.n1, h.c1, A, n, c⟩) := flat_set hcell_len hs i h _ hx 2 (by omega) _ rfl
/-- An instruction changed. -/
theorem iset0 {ys : List Ins} {k : Nat} {x : Ins} (hx : ys[k]? = some x) (t : Int) : (icells ys).set (k * 5) (.int .i64 t) = icells (ys.set k ⟨t, x.a, x.b, x.c, x.imm⟩) := flat_set icell_len ys k x _ hx 0 (by omega) _ rfl
theorem iset1 {ys : List Ins} {k : Nat} {x : Ins} (hx : ys[k]? = some x) (t : Int) : (icells ys).set (k * 5 + 1) (.int .i64 t) = icells (ys.set k ⟨x.op, t, x.b, x.c, x.imm⟩) := flat_set icell_len ys k x _ hx 1 (by omega) _ rfl
theorem iset2 {ys : List Ins} {k : Nat} {x : Ins} (hx : ys[k]? = some x) (t : Int) : (icells ys).set (k * 5 + 2) (.int .i64 t) = icells (ys.set k ⟨x.op, x.a, t, x.c, x.imm⟩) := flat_set icell_len ys k x _ hx 2 (by omega) _ rfl
theorem iset3 {ys : List Ins} {k : Nat} {x : Ins} (hx : ys[k]? = some x) (t : Int) : (icells ys).set (k * 5 + 3) (.int .i64 t) = icells (ys.set k ⟨x.op, x.a, x.b, t, x.imm⟩) := flat_set icell_len ys k x _ hx 3 (by omega) _ rfl
theorem iset4 {ys : List Ins} {k : Nat} {x : Ins} (hx : ys[k]? = some x) (t : Int) : (icells ys).set (k * 5 + 4) (.int .u64 t) = icells (ys.set k ⟨x.op, x.a, x.b, x.c, t⟩) := flat_set icell_len ys k x _ hx 4 (by omega) _ rfl
/-- The cells of an element of an owned row. -/
theorem ins_row {w : World} {base G n c : Nat} {t : TypeId} {ys : List Ins} {k : Nat} {x : Ins} (h : w.ownsRow base t 5 (.slice (some ⟨G, 0, none⟩) n c) n (icells ys)) (hx : ys[k]? = some x) :
    (w.cell? ⟨G, k * 5, none⟩ = some (.int .i64 x.op) ∧ w.cell? ⟨G, k * 5 + 1, none⟩ = some (.int .i64 x.a) ∧ w.cell? ⟨G, k * 5 + 2, none⟩ = some (.int .i64 x.b) ∧ w.cell? ⟨G, k * 5 + 3, none⟩ = some (.int .i64 x.c) ∧ w.cell? ⟨G, k * 5 + 4, none⟩ = some (.int .u64 x.imm)) ∧ ∀ j, w.frozen? ⟨G, j, none⟩ = false := by
  have g := fun j hj => flat_at icell_len ys k _ hx j hj
  have c' := fun j u (hu : (icells ys)[j]? = some u) => (by
    have := h.cells (g := G) rfl j u hu
    rwa [WideShapes.add_plain, Nat.zero_add] at this : w.cell? ⟨G, j, none⟩ = some u)
  exact ⟨⟨c' _ _ (g 0 (by omega)), c' _ _ (g 1 (by omega)), c' _ _ (g 2 (by omega)), c' _ _ (g 3 (by omega)), c' _ _ (g 4 (by omega))⟩, fun j => h.frozenAt j⟩
theorem hd_row {w : World} {base G n c : Nat} {t : TypeId} {hs : List Hd} {k : Nat} {x : Hd} (h : w.ownsRow base t 3 (.slice (some ⟨G, 0, none⟩) n c) n (hcells hs)) (hx : hs[k]? = some x) :
    (w.cell? ⟨G, k * 3, none⟩ = some (.int .i64 x.p) ∧ w.cell? ⟨G, k * 3 + 1, none⟩ = some (.slice x.a1 x.n1 x.c1) ∧ w.cell? ⟨G, k * 3 + 2, none⟩ = some (.slice x.a2 x.n2 x.c2)) ∧ ∀ j, w.frozen? ⟨G, j, none⟩ = false := by
  have g := fun j hj => flat_at hcell_len hs k _ hx j hj
  have c' := fun j u (hu : (hcells hs)[j]? = some u) => (by
    have := h.cells (g := G) rfl j u hu
    rwa [WideShapes.add_plain, Nat.zero_add] at this : w.cell? ⟨G, j, none⟩ = some u)
  exact ⟨⟨c' _ _ (g 0 (by omega)), c' _ _ (g 1 (by omega)), c' _ _ (g 2 (by omega))⟩, fun j => h.frozenAt j⟩
theorem hset3 (hs : List Hd) (i : Nat) (h h' : Hd) (hx : hs[i]? = some h) : (((hcells hs).set (i * 3) (.int .i64 h'.p)).set (i * 3 + 1) (.slice h'.a1 h'.n1 h'.c1)).set (i * 3 + 2) (.slice h'.a2 h'.n2 h'.c2) = hcells (hs.set i h') := by
  have hk : i < hs.length := (List.getElem?_eq_some_iff.1 hx).1
  have s0 := flat_set hcell_len hs i h ⟨h'.p, h.a1, h.n1, h.c1, h.a2, h.n2, h.c2⟩ hx 0 (by omega) (.int .i64 h'.p) rfl
  have s1 := flat_set hcell_len (hs.set i ⟨h'.p, h.a1, h.n1, h.c1, h.a2, h.n2, h.c2⟩) i ⟨h'.p, h.a1, h.n1, h.c1, h.a2, h.n2, h.c2⟩ ⟨h'.p, h'.a1, h'.n1, h'.c1, h.a2, h.n2, h.c2⟩ (by rw [List.getElem?_set_self hk]) 1 (by omega) (.slice h'.a1 h'.n1 h'.c1) rfl
  have s2 := flat_set hcell_len (hs.set i ⟨h'.p, h'.a1, h'.n1, h'.c1, h.a2, h.n2, h.c2⟩) i ⟨h'.p, h'.a1, h'.n1, h'.c1, h.a2, h.n2, h.c2⟩ h' (by rw [List.getElem?_set_self hk]) 2 (by omega) (.slice h'.a2 h'.n2 h'.c2) rfl
  rw [List.set_set] at s1 s2
  unfold hcells
  rw [Nat.add_zero] at s0
  rw [s0, s1, s2]
end Go.Proofs.Ytjgoldlebmfiiaa
end
