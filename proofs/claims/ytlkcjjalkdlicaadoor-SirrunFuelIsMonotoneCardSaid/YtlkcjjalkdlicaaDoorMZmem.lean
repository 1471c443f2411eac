import Derived.Test.YtlkcjjalkdlicaaDoorMVbytem
import Derived.Test.YtlkcjjalkdlicaaDoorMPmath
import Derived.Test.YtlkcjjalkdlicaaDoorMDraw
import Derived.Test.YtlkcjjalkdlicaaDoorMKit
import Derived.Maps.Own
import Derived.Maps.Views
import Derived.Maps.AppendAt
import Derived.Maps.Range
set_option linter.unusedVariables false
set_option linter.unusedSimpArgs false
section
/-
  A machine of the source language in memory (chapter 8): its block, its stack, its maps; what each store makes of it. No function of the program is named here.
-/
namespace Go.Proofs.YtlkcjjalkdlicaaDoor
open Go.RowKit
open Go.ChangeMaps Go.MapKept
open Go.WideElems (Fit)
open Go.Maps (Keyed)

/-! ### Maps of values -/
/-- How a value of 128 bits reads. -/
def valR (v : Value) : Option (DataW Unit × List MemPlace) := match v with
  | .agg cs => match cs.toList with
    | [.int .u64 a, .int .u64 b] => some (.agg [.lit (.int .u64 a), .lit (.int .u64 b)], [])
    | _ => none
  | _ => none
def valD (V : Nat) : DataW Unit := .agg [.lit (.int .u64 (lo V)), .lit (.int .u64 (hi V))]
theorem valR_vv (V : Nat) : valR (vv V) = some (valD V, []) := rfl
theorem valR_inv {v : Value} {V : Nat} {ps : List MemPlace} (h : valR v = some (valD V, ps)) : v = vv V := by
  unfold valR at h
  split at h
  · rename_i cs
    split at h
    · rename_i a b hcs
      injection h with h
      injection h with h1 h2
      unfold valD at h1
      injection h1 with h1
      injection h1 with h3 h4
      injection h4 with h4 h5
      injection h3 with h3
      injection h4 with h4
      injection h3 with h6 h7
      injection h4 with h8 h9
      subst h7 h9
      have : cs = #[.int .u64 (lo V), .int .u64 (hi V)] := by
        apply Array.toList_inj.1
        exact hcs
      rw [this]
    · cases h
  · cases h
theorem Tryd.keyed_int : Keyed Tryd.prog 3 := Go.Maps.int_keyed Tryd.underlying3
/-- Block b is a map that holds just what m says, of at most K entries. -/
def CellsAt (w : World) (b K : Nat) (m : Cl) : Prop :=
  ∃ D : DataW Unit, w.ownsMap Tryd.prog 3 valR b K D ∧ ∀ (i : Int) (zd : DataW Unit), D.atKey (.int .i64 i) zd = match m i with | none => zd | some V => valD V
section
variable {w w' : World} {b K : Nat} {m : Cl}
theorem CellsAt.lt (h : CellsAt w b K m) : b < w.heap.size := by obtain ⟨D, h1, _⟩ := h; exact h1.lt
theorem CellsAt.mono (h : CellsAt w b K m) {K' : Nat} (hK : K ≤ K') : CellsAt w b K' m := by obtain ⟨D, h1, h2⟩ := h; exact ⟨D, h1.mono hK, h2⟩
theorem CellsAt.kept {row : Option Nat} (h : CellsAt w b K m) (hg : w.grownBy w' row) (hne : some b ≠ row) : CellsAt w' b K m := by obtain ⟨D, h1, h2⟩ := h; exact ⟨D, h1.kept hg hne, h2⟩
theorem CellsAt.below {B : Nat} (h : CellsAt w b K m) (hb : Below B w w') (hB : b < B) : CellsAt w' b K m := by
  obtain ⟨D, ⟨es, clock, h1, h3⟩, h2⟩ := h
  exact ⟨D, ⟨es, clock, (hb.block b hB).trans h1, h3⟩, h2⟩
theorem CellsAt.drewN (h : CellsAt w b K m) (n : Nat) : CellsAt (w.drewN n) b K m := h
theorem CellsAt.setCell (h : CellsAt w b K m) (p : Addr) (hp : b ≠ p.block) (u : Value) : CellsAt (w.setCell p u) b K m := by
  obtain ⟨D, ⟨es, clock, h1, h3⟩, h2⟩ := h
  exact ⟨D, ⟨es, clock, (Below.heap_setCell w p u b hp).trans h1, h3⟩, h2⟩
theorem CellsAt.new (w : World) : CellsAt (w.alloc (.map #[] 0)) w.heap.size 0 noC :=
  ⟨_, World.ownsMap_made w Tryd.prog 3 valR, fun _ _ => rfl⟩
/-- A map is no row. -/
theorem CellsAt.not_row (h : CellsAt w b K m) {g : Nat} {cs : Array Value} {t : TypeId} {fr : Nat × Nat} (hg : w.heap[g]? = some (.cells cs t fr)) : b ≠ g := by
  obtain ⟨D, ⟨es, clock, h1, _⟩, _⟩ := h
  rintro rfl
  rw [h1] at hg
  cases hg
theorem key_int {i : Int} (hi : -9223372036854775808 ≤ i ∧ i ≤ 9223372036854775807) : keyOf Tryd.prog 3 (.int .i64 i) = some (.int .i64 i) := by
  have hw : (Lit.int .i64 i).wf = true := by
    show (decide (IntKind.i64.min ≤ i) && decide (i ≤ IntKind.i64.max)) = true
    rw [decide_eq_true (show IntKind.i64.min ≤ i from hi.1), decide_eq_true (show i ≤ IntKind.i64.max from hi.2)]
    rfl
  simp [keyOf, mapKey, Tryd.underlying3, hw]
theorem zeroV (w : World) : (zeroValue 33).run Tryd.prog w = .ok (vv 0) w := by kernel_rfl
/-- 'v, ok := m[i]'. -/
theorem CellsAt.look (h : CellsAt w b K m) (i : Int) (hi : -9223372036854775808 ≤ i ∧ i ≤ 9223372036854775807) :
    (Instr.lookup 135 (.map (some b)) (.int .i64 i) true).run Tryd.prog w = .ok (.tuple #[vv ((m i).getD 0), .bool (m i).isSome]) w := by
  obtain ⟨D, ⟨es, clock, hb, F, _, rfl⟩, h2⟩ := h
  have hkey := key_int hi
  have hat := h2 i
  rcases Maps.fit_look true Tryd.keyed_int Tryd.underlying135 (zeroV w) hb F hkey with ⟨hrun, _, h3⟩ | ⟨e0, y, _, _, hrun, hRv, h3, _⟩
  · cases hm : m i with
    | none => exact hrun
    | some V =>
      rw [hm] at hat
      have e1 := (h3 .nil).symm.trans (hat .nil)
      unfold valD at e1
      cases e1
  · cases hm : m i with
    | none =>
      rw [hm] at hat
      have e1 := (h3 .nil).symm.trans (hat .nil)
      have e2 := (h3 (.agg [])).symm.trans (hat (.agg []))
      rw [e1] at e2
      cases e2
    | some V =>
      rw [hm] at hat
      have e1 := (h3 .nil).symm.trans (hat .nil)
      obtain ⟨y1, y2⟩ := y
      dsimp only at e1
      subst e1
      rw [hrun, valR_inv hRv]
      rfl
/-- 'm[i] = v'. -/
theorem CellsAt.store (h : CellsAt w b K m) (i : Int) (hi : -9223372036854775808 ≤ i ∧ i ≤ 9223372036854775807) (V : Nat) (hK : K < maxLen) :
    ∃ w', (Instr.mapUpdate 135 (.map (some b)) (.int .i64 i) (vv V)).run Tryd.prog w = .ok () w' ∧ CellsAt w' b (K + 1) (updC m i V) ∧ w.grownBy w' (some b) := by
  obtain ⟨D, h1, h2⟩ := h
  have hkey := key_int hi
  have hM : Go.Maps.IsMap D := by rcases h1 with ⟨es, clock, _, _, _, e⟩; exact ⟨_, e⟩
  obtain ⟨w', hrun, ho, hg⟩ := h1.update Tryd.keyed_int Tryd.underlying135 hK hkey (valR_vv V)
  refine ⟨w', hrun, ⟨_, ho, fun j zd => ?_⟩, hg⟩
  unfold updC
  by_cases hj : j = i
  · subst hj
    rw [if_pos rfl, Go.Maps.atKey_put_same hM (show WideAt.IsKeyLit (.int .i64 j) from trivial)]
  · rw [if_neg hj, Go.Maps.atKey_put_other (fun e => hj (by injection e))]
    exact h2 j zd
end
end Go.Proofs.YtlkcjjalkdlicaaDoor
end

section
/-
  A machine of the source language in memory (chapter 8): its block, its stack; what each store makes of it. No function of the program is named here.
-/
namespace Go.Proofs.YtlkcjjalkdlicaaDoor
open Go.RowKit

/-- The cells of values. -/
def vcell (V : Nat) : List Value := [.int .u64 (lo V), .int .u64 (hi V)]
def vcells (l : List Nat) : List Value := l.flatMap vcell
theorem vcell_len (V : Nat) : (vcell V).length = 2 := rfl
theorem vcells_len (l : List Nat) : (vcells l).length = l.length * 2 := flat_len vcell_len l
theorem vcells_app (l m : List Nat) : vcells (l ++ m) = vcells l ++ vcells m := by simp [vcells]
theorem vcells_oneCell (l : List Nat) : ∀ v ∈ vcells l, v.oneCell' = true := by
  intro v hv
  simp only [vcells, List.mem_flatMap] at hv
  obtain ⟨x, _, hv⟩ := hv
  simp [vcell] at hv
  rcases hv with rfl | rfl <;> rfl
theorem vcells_at {l : List Nat} {k V : Nat} (h : l[k]? = some V) : (vcells l)[k * 2]? = some (.int .u64 (lo V)) ∧ (vcells l)[k * 2 + 1]? = some (.int .u64 (hi V)) :=
  ⟨flat_at vcell_len l k V h 0 (by omega), flat_at vcell_len l k V h 1 (by omega)⟩
/-- The machine's cells. -/
def mrest (s : Mch) (vi vt vf vs : Value) : List Value :=
  [vi, .int .i64 s.kind, .int .u64 s.code, .int .u64 (lo s.res), .int .u64 (hi s.res), vt, .int .i64 (s.steps : Int), .bool s.ended, vf, vs, .int .i64 (s.depth : Int)]
def mcells (s : Mch) (vi vt vf vs : Value) : List Value := vcells s.regs ++ mrest s vi vt vf vs
/-- An activation with its maps' blocks. -/
abbrev Zn := Acn × Nat × Nat
def acell (z : Zn) : List Value := [.int .i64 (z.1.f : Int), .int .i64 (z.1.pc : Int), .map (some z.2.1), .map (some z.2.2)]
def acells (l : List Zn) : List Value := l.flatMap acell
theorem acell_len (z : Zn) : (acell z).length = 4 := rfl
theorem acells_len (l : List Zn) : (acells l).length = l.length * 4 := flat_len acell_len l
theorem acells_app (l m : List Zn) : acells (l ++ m) = acells l ++ acells m := by simp [acells]
theorem acells_oneCell (l : List Zn) : ∀ v ∈ acells l, v.oneCell' = true := by
  intro v hv
  simp only [acells, List.mem_flatMap] at hv
  obtain ⟨x, _, hv⟩ := hv
  simp [acell] at hv
  rcases hv with rfl | rfl | rfl | rfl <;> rfl
theorem acells_at {l : List Zn} {k : Nat} {z : Zn} (h : l[k]? = some z) : (acells l)[k * 4]? = some (.int .i64 (z.1.f : Int)) ∧ (acells l)[k * 4 + 1]? = some (.int .i64 (z.1.pc : Int)) ∧ (acells l)[k * 4 + 2]? = some (.map (some z.2.1)) ∧ (acells l)[k * 4 + 3]? = some (.map (some z.2.2)) :=
  ⟨flat_at acell_len l k z h 0 (by omega), flat_at acell_len l k z h 1 (by omega), flat_at acell_len l k z h 2 (by omega), flat_at acell_len l k z h 3 (by omega)⟩
/-- Numbers that are still to be read. -/
def ucells (l : List Nat) : List Value := l.map fun (v : Nat) => .int .u64 (v : Int)
def InAt (w : World) (B : Nat) (v : Value) (l : List Nat) : Prop :=
  ∃ A n c, v = .slice A n c ∧ l.length = n ∧ n ≤ c ∧ c ≤ 9223372036854775807 ∧ (A = none → c = 0) ∧ Sees w B A (ucells l)
def blocksZ (l : List Zn) : List Nat := l.flatMap fun z => [z.2.1, z.2.2]
/-- The machine s in memory: its block g; all of its own from block base on. -/
structure MRaw (w : World) (g base : Nat) (vi vt vf vs : Value) (zs : List Zn) (s : Mch) : Prop where
  row : Row w g 79 (mcells s vi vt vf vs)
  gb : base ≤ g
  r8 : s.regs.length = 8
  inp : InAt w base vi s.inp
  tr : w.ownsRow base 33 2 vt s.trace.length (vcells s.trace)
  st : w.ownsRow base 137 4 vs s.st.length (acells zs)
  eq : zs.map (·.1) = s.st
  asc : (blocksZ zs).Pairwise (· < ·)
  low : ∀ b ∈ blocksZ zs, base ≤ b
  maps : ∀ z ∈ zs, CellsAt w z.2.1 s.steps z.1.sl ∧ CellsAt w z.2.2 s.steps z.1.ar
section
variable {w w' : World} {g base : Nat} {vi vt vf vs : Value} {zs : List Zn} {s : Mch}
theorem InAt.below {B : Nat} {v : Value} {l : List Nat} (h : InAt w B v l) (hb : Below B w w') : InAt w' B v l := by
  obtain ⟨A, n, c, h1, h2, h3, h4, h5, h6⟩ := h
  exact ⟨A, n, c, h1, h2, h3, h4, h5, h6.below hb⟩
theorem MRaw.gl (h : MRaw w g base vi vt vf vs zs s) : g < w.heap.size := h.row.lt
theorem MRaw.bl (h : MRaw w g base vi vt vf vs zs s) : base ≤ w.heap.size := by have := h.gl; have := h.gb; omega
theorem MRaw.len (h : MRaw w g base vi vt vf vs zs s) : zs.length = s.st.length := by rw [← h.eq, List.length_map]
/-- Over a call that leaves all as it was. -/
theorem MRaw.call (h : MRaw w g base vi vt vf vs zs s) (hb : Below w.heap.size w w') : MRaw w' g base vi vt vf vs zs s :=
  ⟨h.row.call hb, h.gb, h.r8, h.inp.below (hb.mono h.bl), own_below h.tr hb, own_below h.st hb, h.eq, h.asc, h.low, fun z hz => ⟨(h.maps z hz).1.below hb (h.maps z hz).1.lt, (h.maps z hz).2.below hb (h.maps z hz).2.lt⟩⟩
theorem MRaw.drewN (h : MRaw w g base vi vt vf vs zs s) (n : Nat) : MRaw (w.drewN n) g base vi vt vf vs zs s :=
  ⟨h.row, h.gb, h.r8, h.inp, h.tr, h.st, h.eq, h.asc, h.low, h.maps⟩
theorem MRaw.alloc (h : MRaw w g base vi vt vf vs zs s) (o : Obj) : MRaw (w.alloc o) g base vi vt vf vs zs s := h.call (below1 w o)
/-- The cells by number. -/
theorem MRaw.reg (h : MRaw w g base vi vt vf vs zs s) {i : Nat} (h8 : i < 8) : w.cell? ⟨g, i * 2, none⟩ = some (.int .u64 (lo (s.regs.getD i 0))) ∧ w.cell? ⟨g, i * 2 + 1, none⟩ = some (.int .u64 (hi (s.regs.getD i 0))) := by
  have hl : i < s.regs.length := by rw [h.r8]; exact h8
  have h1 : s.regs[i]? = some (s.regs.getD i 0) := by rw [List.getD_eq_getElem?_getD, List.getElem?_eq_getElem hl]; rfl
  have h2 := vcells_at h1
  have h3 : (vcells s.regs).length = 16 := by rw [vcells_len, h.r8]
  exact ⟨h.row.cell (by unfold mcells; rw [List.getElem?_append_left (by omega)]; exact h2.1), h.row.cell (by unfold mcells; rw [List.getElem?_append_left (by omega)]; exact h2.2)⟩
theorem mcells_hi (r8 : s.regs.length = 8) (j : Nat) : (mcells s vi vt vf vs)[16 + j]? = (mrest s vi vt vf vs)[j]? := by
  have h3 : (vcells s.regs).length = 16 := by rw [vcells_len, r8]
  unfold mcells
  rw [List.getElem?_append_right (by omega), h3, Nat.add_sub_cancel_left]
theorem MRaw.far (h : MRaw w g base vi vt vf vs zs s) (j : Nat) {v : Value} (hv : (mrest s vi vt vf vs)[j]? = some v) : w.cell? ⟨g, 16 + j, none⟩ = some v := h.row.cell (by rw [mcells_hi h.r8]; exact hv)
theorem put_grown (w : World) (g k : Nat) (u : Value) : w.grownBy (w.setCell ⟨g, k, none⟩ u) (some g) := ⟨rfl, rfl, rfl, by simp [World.setCell], fun i _ hi => Below.heap_setCell w ⟨g, k, none⟩ u i (fun e => hi (by rw [e]))⟩
theorem put_grown2 (w : World) (g k k2 : Nat) (u u2 : Value) : w.grownBy ((w.setCell ⟨g, k, none⟩ u).setCell ⟨g, k2, none⟩ u2) (some g) := World.grownBy.trans (put_grown w g k u) (put_grown _ g k2 u2)
theorem MRaw.gB (h : MRaw w g base vi vt vf vs zs s) (hg : w.grownBy w' (some g)) : Below base w w' := (Below.refl _ _).grown hg h.bl (fun k hk => by injection hk with hk; have := h.gb; omega)
/-- A row of another type lies elsewhere. -/
theorem own_off {base e size n : Nat} {v : Value} {xs : List Value} {g : Nat} {cs : Array Value} {t : TypeId} {fr : Nat × Nat} (h : w.ownsRow base e size v n xs) (hg : w.heap[g]? = some (.cells cs t fr)) (ht : t ≠ e) : v.ownBlock = none ∨ v.ownBlock ≠ some g := by
  rcases h.2 with ⟨rfl, _⟩ | ⟨g', cap, cur, rfl, _, hh, _⟩
  · exact .inl rfl
  · refine .inr fun he => ?_
    injection he with he
    simp only at he
    rw [he, hg] at hh
    injection hh with hh
    injection hh with _ e3
    exact ht e3
theorem mcells_set (r8 : s.regs.length = 8) (j : Nat) (u : Value) : (mcells s vi vt vf vs).set (16 + j) u = vcells s.regs ++ (mrest s vi vt vf vs).set j u := by
  have h3 : (vcells s.regs).length = 16 := by rw [vcells_len, r8]
  unfold mcells
  rw [List.set_append_right _ _ (by omega), h3, Nat.add_sub_cancel_left]
/-- A store into the machine's own block. -/
theorem MRaw.store (h : MRaw w g base vi vt vf vs zs s) (k : Nat) (u : Value) {s' : Mch} {vi' : Value} (hc : (mcells s vi vt vf vs).set k u = mcells s' vi' vt vf vs) (hin : InAt w base vi' s'.inp) (hst : s'.st = s.st) (htr : s'.trace = s.trace) (hsp : s.steps ≤ s'.steps) (hr : s'.regs.length = 8) :
    MRaw (w.setCell ⟨g, k, none⟩ u) g base vi' vt vf vs zs s' := by
  have hg : w.grownBy (w.setCell ⟨g, k, none⟩ u) (some g) := ⟨rfl, rfl, rfl, by simp [World.setCell], fun i _ hi => Below.heap_setCell w ⟨g, k, none⟩ u i (fun e => hi (by rw [e]))⟩
  have hB : Below base w (w.setCell ⟨g, k, none⟩ u) := (Below.refl _ _).setCell h.gb _
  refine ⟨?_, h.gb, hr, hin.below hB, ?_, ?_, h.eq.trans hst.symm, h.asc, h.low, fun z hz => ?_⟩
  · have := h.row.set_ k u
    rwa [hc] at this
  · rw [htr]; exact h.tr.kept hg (own_off h.tr h.row (by decide))
  · rw [hst]; exact h.st.kept hg (own_off h.st h.row (by decide))
  · exact ⟨((h.maps z hz).1.setCell ⟨g, k, none⟩ ((h.maps z hz).1.not_row h.row) u).mono hsp, ((h.maps z hz).2.setCell ⟨g, k, none⟩ ((h.maps z hz).2.not_row h.row) u).mono hsp⟩
theorem MRaw.store2 (h : MRaw w g base vi vt vf vs zs s) (k k2 : Nat) (u u2 : Value) {s' : Mch} (hc : ((mcells s vi vt vf vs).set k u).set k2 u2 = mcells s' vi vt vf vs) (hin : s'.inp = s.inp) (hst : s'.st = s.st) (htr : s'.trace = s.trace) (hsp : s.steps ≤ s'.steps) (hr : s'.regs.length = 8) :
    MRaw ((w.setCell ⟨g, k, none⟩ u).setCell ⟨g, k2, none⟩ u2) g base vi vt vf vs zs s' := by
  have hg1 : w.grownBy (w.setCell ⟨g, k, none⟩ u) (some g) := ⟨rfl, rfl, rfl, by simp [World.setCell], fun i _ hi => Below.heap_setCell w ⟨g, k, none⟩ u i (fun e => hi (by rw [e]))⟩
  have hg2 : (w.setCell ⟨g, k, none⟩ u).grownBy ((w.setCell ⟨g, k, none⟩ u).setCell ⟨g, k2, none⟩ u2) (some g) := ⟨rfl, rfl, rfl, by simp [World.setCell], fun i _ hi => Below.heap_setCell _ ⟨g, k2, none⟩ u2 i (fun e => hi (by rw [e]))⟩
  have hg := World.grownBy.trans hg1 hg2
  have hB : Below base w ((w.setCell ⟨g, k, none⟩ u).setCell ⟨g, k2, none⟩ u2) := ((Below.refl _ _).setCell (p := ⟨g, k, none⟩) h.gb _).setCell (p := ⟨g, k2, none⟩) h.gb _
  have hr1 := h.row.set_ k u
  refine ⟨?_, h.gb, hr, ?_, ?_, ?_, h.eq.trans hst.symm, h.asc, h.low, fun z hz => ?_⟩
  · have := hr1.set_ k2 u2
    rwa [hc] at this
  · rw [hin]; exact h.inp.below hB
  · rw [htr]; exact h.tr.kept hg (own_off h.tr h.row (by decide))
  · rw [hst]; exact h.st.kept hg (own_off h.st h.row (by decide))
  · have q1 := (h.maps z hz).1.setCell ⟨g, k, none⟩ ((h.maps z hz).1.not_row h.row) u
    have q2 := (h.maps z hz).2.setCell ⟨g, k, none⟩ ((h.maps z hz).2.not_row h.row) u
    exact ⟨(q1.setCell ⟨g, k2, none⟩ (q1.not_row hr1) u2).mono hsp, (q2.setCell ⟨g, k2, none⟩ (q2.not_row hr1) u2).mono hsp⟩
theorem vcells_set (V : Nat) : ∀ (l : List Nat) (i : Nat), i < l.length → ((vcells l).set (i * 2) (.int .u64 (lo V))).set (i * 2 + 1) (.int .u64 (hi V)) = vcells (l.set i V)
  | [], i, h => by simp at h
  | U :: r, 0, _ => rfl
  | U :: r, i + 1, h => by
    have e : vcells (U :: r) = .int .u64 (lo U) :: .int .u64 (hi U) :: vcells r := rfl
    rw [e, show (i + 1) * 2 = i * 2 + 1 + 1 by omega, show i * 2 + 1 + 1 + 1 = (i * 2 + 1) + 1 + 1 by omega]
    simp only [List.set_cons_succ]
    rw [vcells_set V r i (by simpa using h)]
    rfl
theorem MRaw.setReg (h : MRaw w g base vi vt vf vs zs s) {i : Nat} (h8 : i < 8) (V : Nat) : MRaw ((w.setCell ⟨g, i * 2, none⟩ (.int .u64 (lo V))).setCell ⟨g, i * 2 + 1, none⟩ (.int .u64 (hi V))) g base vi vt vf vs zs (s.setR (i : Int) V) := by
  have h3 : (vcells s.regs).length = 16 := by rw [vcells_len, h.r8]
  refine h.store2 _ _ _ _ ?_ rfl rfl rfl (Nat.le_refl _) (by show (s.regs.set _ _).length = 8; rw [List.length_set]; exact h.r8)
  unfold mcells
  rw [List.set_append_left _ _ (by omega), List.set_append_left _ _ (by rw [List.length_set]; omega), vcells_set V s.regs i (by rw [h.r8]; exact h8)]
  rfl
theorem MRaw.stopped (h : MRaw w g base vi vt vf vs zs s) (k : Int) : MRaw ((w.setCell ⟨g, 17, none⟩ (.int .i64 k)).setCell ⟨g, 23, none⟩ (.bool true)) g base vi vt vf vs zs (s.stop k) := by
  have h1 := h.store 17 (.int .i64 k) (s' := { s with kind := k }) (mcells_set h.r8 1 _) h.inp rfl rfl (Nat.le_refl _) h.r8
  exact h1.store 23 (.bool true) (s' := s.stop k) (mcells_set h1.r8 7 _) h1.inp rfl rfl (Nat.le_refl _) h.r8
end
end Go.Proofs.YtlkcjjalkdlicaaDoor
end

section
/-
  The contract of spillframedraw's Input: at most three numbers, in a row of the call's own. Condition: the receiver is a list of choices.
-/
namespace Go.Proofs.YtlkcjjalkdlicaaDoor
open Go.RowKit

theorem info_u64 : (Tryd.prog.info? 31).map (fun i => (i.zero, i.size, i.bytes)) = some (some (.int .u64 0), 1, 8) := by kernel_rfl
theorem inp_new (w : World) (x : Value) (t : TypeId) : ∀ (j : Nat) (u : Value), [x][j]? = some u → (w.alloc (.cells #[x] t)).cell? ((⟨w.heap.size, 0, none⟩ : Addr).add j) = some u := by
  intro j u hu
  rw [WideShapes.add_plain, Nat.zero_add]
  exact (Row.new w t [x]).cell hu
theorem ucells_length (l : List Nat) : (ucells l).length = l.length := by simp [ucells]
theorem ucells_add (l : List Nat) (v : Nat) : ucells (l ++ [v]) = ucells l ++ [.int .u64 (v : Int)] := by simp [ucells]
/-- What the loop keeps. -/
def InpRel (w0 : World) (g : Nat) (nv lv : Value) (wr : World) : Prop :=
  ∃ (k : Nat) (l : List Nat), k + l.length ≤ 3 ∧ nv = .int .i64 (k : Int) ∧ wr.ownsRow w0.heap.size 31 1 lv l.length (ucells l) ∧ (∀ v ∈ l, v < 18446744073709551616) ∧ Codes wr g ∧ w0.grownBy wr (some g)
def InpPost (g : Nat) (w : World) (e : Ending) (w' : World) : Prop :=
  ∃ (A : Option Addr) (n c : Nat) (l : List Nat), e = .returned (.slice A n c) ∧ l.length = n ∧ n ≤ 3 ∧ (A = none → c = 0) ∧ w'.ownsRow w.heap.size 31 1 (.slice A n c) n (ucells l) ∧ (∀ v ∈ l, v < 18446744073709551616) ∧ Codes w' g ∧ w.grownBy w' (some g)
section
variable {w0 wr w2 w3 : World} {g : Nat} {lv v' : Value} {l : List Nat}
theorem inp_far (ho : wr.ownsRow w0.heap.size 31 1 lv l.length (ucells l)) (hg : g < w0.heap.size) : lv.ownBlock = none ∨ lv.ownBlock ≠ some g := by
  cases e : lv.ownBlock with
  | none => exact .inl rfl
  | some k => exact .inr fun h => by have := (ho.lt k e).1; injection h with h; omega
theorem InpRel.step {k : Nat} {x : Int} (hk : k + 1 + l.length ≤ 3) (hg : g < w0.heap.size) (ho : w2.ownsRow w0.heap.size 31 1 lv l.length (ucells l)) (hok : ∀ v ∈ l, v < 18446744073709551616) (hx : isW x) (hC : Codes w2 g) (hG : w0.grownBy w2 (some g))
    (ho' : w3.ownsRow w0.heap.size 31 1 v' (l.length + 1) (ucells l ++ [.int .u64 x])) (hg' : (w2.alloc (.cells #[.int .u64 x] 31)).grownBy w3 lv.ownBlock) :
    InpRel w0 g (.int .i64 (k : Int)) v' w3 := by
  obtain ⟨v, rfl⟩ := Int.eq_ofNat_of_zero_le hx.1
  have hv := hx.2
  refine ⟨k, l ++ [v], by simp; omega, rfl, ?_, fun u hu => ?_, (hC.alloc _).kept hg' (fun j hj => ?_), (hG.trans (World.grownBy_alloc _ _ _)).andThen hg' (fun j hj => .inl (ho.lt j hj).1)⟩
  · rw [ucells_add]
    simpa using ho'
  · rcases List.mem_append.1 hu with h | h
    · exact hok u h
    · simp at h; subst h; omega
  · have := (ho.lt j hj).1
    omega
theorem InpRel.start {k : Nat} (hk : k ≤ 3) (hC : Codes wr g) (hG : w0.grownBy wr (some g)) : InpRel w0 g (.int .i64 (k : Int)) (.slice none 0 0) wr :=
  ⟨k, [], by simpa using hk, rfl, ⟨by simp [ucells], .inl ⟨rfl, rfl⟩⟩, (fun u hu => by cases hu), hC, hG⟩
end

set_option maxRecDepth 100000 in
set_option maxHeartbeats 1000000 in
theorem input_any (g : Nat) (w : World) (h : Hid (Codes w g)) : Calls Tryd.prog 27 #[.pointer (some ⟨g, 0, none⟩)] w (InpPost g w) := by
  obtain ⟨i0, hi, hz0, hz1, hz2⟩ := info_parts info_u64
  have hg := h.out.lt
  go_enter Tryd.func27, Tryd.ntmps27
  go_wp2_with fail
  refine (next_any g _ _ h (by omega) (by omega)).mono ?_
  rintro e w1 ⟨v, rfl, v0, v1, hC, hG, hz⟩
  clear hz
  obtain ⟨k, rfl⟩ := Int.eq_ofNat_of_zero_le v0
  have HR := hide (InpRel.start (by omega : k ≤ 3) hC hG)
  clear hC hG v0 v1
  go_wp2_with fail
  go_loopw [4, 3] (fun nv lv wr => Hid (InpRel w g nv lv wr)) (fun nv _ _ => (intOf nv).toNat)
  case atStart => exact HR
  case round =>
    obtain ⟨k, l, hk, rfl, ho, hok, hC, hG⟩ := hrel.out
    have Hok := hide hok
    have HC := hide hC
    have HG := hide hG
    clear HR hrel hok hC hG
    by_cases hlt : 0 < k
    · have hlt' : (0 : Int) < (k : Int) := by omega
      obtain ⟨j, rfl⟩ : ∃ j, k = j + 1 := ⟨k - 1, by omega⟩
      go_wp2_with fail
      refine (cword_any g _ HC).mono ?_
      rintro e w2 ⟨x, rfl, hx, hC2, hG2, hz2⟩
      have ho2 := ho.kept hG2 (inp_far ho hg)
      have HX := hide hx
      have HC2 := hide hC2
      have HG2 := hide (HG.out.trans hG2)
      have hbs : w.heap.size ≤ w2.heap.size := HG2.out.size
      clear hx hC2 hG2 ho hz2
      go_wp2_with (at_builtin; refine wpList_append_own _ rfl (.tmp 11) (.tmp 14) 27 rfl w.heap.size 31 i0 (.int .u64 0) 1 8 Tryd.underlying27 hi hz0 hz1 hz2 rfl (by decide) _ l.length (ucells l) rfl (ho2.alloc _) ⟨w2.heap.size, 0, none⟩ 1 1 [.int .u64 x] rfl rfl (inp_new _ _ _) (fun u hu => by simp at hu; subst hu; rfl) (by unfold maxLen; omega) (by omega) (by simp; omega) ?_)
      intro v' w3 ho3 hg3 _
      have R := hide (InpRel.step (k := j) (by omega : j + 1 + l.length ≤ 3) hg ho2 Hok.out HX.out HC2.out HG2.out ho3 hg3)
      clear ho3 hg3 ho2
      go_wp2_with fail
      go_roundw
      case rel => first | exact R | (have e : ((j + 1 : Nat) : Int) - 1 = (j : Int) := by omega
                                     simpa [e] using R)
      case measure => simp [intOf]
    · obtain rfl : k = 0 := by omega
      obtain ⟨A, c, rfl, hA, _⟩ := own_form ho
      have HO := hide ho
      clear ho
      go_wp2_with fail
      go_ret
      exact ⟨A, l.length, c, l, rfl, rfl, by omega, hA, HO.out, Hok.out, HC.out, HG.out⟩
end Go.Proofs.YtlkcjjalkdlicaaDoor
end
