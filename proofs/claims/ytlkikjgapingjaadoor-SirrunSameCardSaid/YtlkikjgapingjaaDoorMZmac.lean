import Derived.Test.YtlkikjgapingjaaDoorMZmem
import Derived.Maps.AppendAt
set_option linter.unusedVariables false
set_option linter.unusedSimpArgs false
section
/-
  A machine of the source language in memory (chapter 8): its block, its stack; what each store makes of it. No function of the program is named here.
-/
namespace Go.Proofs.YtlkikjgapingjaaDoor
open Go.RowKit

/-- The cells of values. -/
def vcell (V : Nat) : List Value := [.int .u64 (lo V), .int .u64 (hi V)]
def vcells (l : List Nat) : List Value := l.flatMap vcell
theorem vcell_len (V : Nat) : (vcell V).length = 2 := rfl
theorem vcells_len (l : List Nat) : (vcells l).length = l.length * 2 := flat_len vcell_len l
theorem vcells_app (l m : List Nat) : vcells (l ++ m) = vcells l ++ vcells m := by simp [vcells]
theorem vcells_oneCell (l : List Nat) : ∀ v ∈ vcells l, v.oneCell' = true := by
  intro v hv
  simp only [vcells, List.mem_flatMap] at hv
  obtain ⟨x, _, hv⟩ := hv
  simp [vcell] at hv
  rcases hv with rfl | rfl <;> rfl
theorem vcells_at {l : List Nat} {k V : Nat} (h : l[k]? = some V) : (vcells l)[k * 2]? = some (.int .u64 (lo V)) ∧ (vcells l)[k * 2 + 1]? = some (.int .u64 (hi V)) :=
  ⟨flat_at vcell_len l k V h 0 (by omega), flat_at vcell_len l k V h 1 (by omega)⟩
/-- The machine's cells. -/
def mrest (s : Mch) (vi vt vf vs : Value) : List Value :=
  [vi, .int .i64 s.kind, .int .u64 s.code, .int .u64 (lo s.res), .int .u64 (hi s.res), vt, .int .i64 (s.steps : Int), .bool s.ended, vf, vs, .int .i64 (s.depth : Int)]
def mcells (s : Mch) (vi vt vf vs : Value) : List Value := vcells s.regs ++ mrest s vi vt vf vs
/-- An activation with its maps' blocks. -/
abbrev Zn := Acn × Nat × Nat
def acell (z : Zn) : List Value := [.int .i64 (z.1.f : Int), .int .i64 (z.1.pc : Int), .map (some z.2.1), .map (some z.2.2)]
def acells (l : List Zn) : List Value := l.flatMap acell
theorem acell_len (z : Zn) : (acell z).length = 4 := rfl
theorem acells_len (l : List Zn) : (acells l).length = l.length * 4 := flat_len acell_len l
theorem acells_app (l m : List Zn) : acells (l ++ m) = acells l ++ acells m := by simp [acells]
theorem acells_oneCell (l : List Zn) : ∀ v ∈ acells l, v.oneCell' = true := by
  intro v hv
  simp only [acells, List.mem_flatMap] at hv
  obtain ⟨x, _, hv⟩ := hv
  simp [acell] at hv
  rcases hv with rfl | rfl | rfl | rfl <;> rfl
theorem acells_at {l : List Zn} {k : Nat} {z : Zn} (h : l[k]? = some z) : (acells l)[k * 4]? = some (.int .i64 (z.1.f : Int)) ∧ (acells l)[k * 4 + 1]? = some (.int .i64 (z.1.pc : Int)) ∧ (acells l)[k * 4 + 2]? = some (.map (some z.2.1)) ∧ (acells l)[k * 4 + 3]? = some (.map (some z.2.2)) :=
  ⟨flat_at acell_len l k z h 0 (by omega), flat_at acell_len l k z h 1 (by omega), flat_at acell_len l k z h 2 (by omega), flat_at acell_len l k z h 3 (by omega)⟩
/-- Numbers that are still to be read. -/
def ucells (l : List Nat) : List Value := l.map fun (v : Nat) => .int .u64 (v : Int)
def InAt (w : World) (B : Nat) (v : Value) (l : List Nat) : Prop :=
  ∃ A n c, v = .slice A n c ∧ l.length = n ∧ n ≤ c ∧ c ≤ 9223372036854775807 ∧ (A = none → c = 0) ∧ Sees w B A (ucells l)
def blocksZ (l : List Zn) : List Nat := l.flatMap fun z => [z.2.1, z.2.2]
/-- The machine s in memory: its block g; all of its own from block base on. -/
structure MRaw (w : World) (g base : Nat) (vi vt vf vs : Value) (zs : List Zn) (s : Mch) : Prop where
  row : Row w g 62 (mcells s vi vt vf vs)
  gb : base ≤ g
  r8 : s.regs.length = 8
  inp : InAt w base vi s.inp
  tr : w.ownsRow base 33 2 vt s.trace.length (vcells s.trace)
  st : w.ownsRow base 81 4 vs s.st.length (acells zs)
  eq : zs.map (·.1) = s.st
  asc : (blocksZ zs).Pairwise (· < ·)
  low : ∀ b ∈ blocksZ zs, base ≤ b
  maps : ∀ z ∈ zs, CellsAt w z.2.1 s.steps z.1.sl ∧ CellsAt w z.2.2 s.steps z.1.ar
section
variable {w w' : World} {g base : Nat} {vi vt vf vs : Value} {zs : List Zn} {s : Mch}
theorem InAt.below {B : Nat} {v : Value} {l : List Nat} (h : InAt w B v l) (hb : Below B w w') : InAt w' B v l := by
  obtain ⟨A, n, c, h1, h2, h3, h4, h5, h6⟩ := h
  exact ⟨A, n, c, h1, h2, h3, h4, h5, h6.below hb⟩
theorem MRaw.gl (h : MRaw w g base vi vt vf vs zs s) : g < w.heap.size := h.row.lt
theorem MRaw.bl (h : MRaw w g base vi vt vf vs zs s) : base ≤ w.heap.size := by have := h.gl; have := h.gb; omega
theorem MRaw.len (h : MRaw w g base vi vt vf vs zs s) : zs.length = s.st.length := by rw [← h.eq, List.length_map]
/-- Over a call that leaves all as it was. -/
theorem MRaw.call (h : MRaw w g base vi vt vf vs zs s) (hb : Below w.heap.size w w') : MRaw w' g base vi vt vf vs zs s :=
  ⟨h.row.call hb, h.gb, h.r8, h.inp.below (hb.mono h.bl), own_below h.tr hb, own_below h.st hb, h.eq, h.asc, h.low, fun z hz => ⟨(h.maps z hz).1.below hb (h.maps z hz).1.lt, (h.maps z hz).2.below hb (h.maps z hz).2.lt⟩⟩
theorem MRaw.drewN (h : MRaw w g base vi vt vf vs zs s) (n : Nat) : MRaw (w.drewN n) g base vi vt vf vs zs s :=
  ⟨h.row, h.gb, h.r8, h.inp, h.tr, h.st, h.eq, h.asc, h.low, h.maps⟩
theorem MRaw.alloc (h : MRaw w g base vi vt vf vs zs s) (o : Obj) : MRaw (w.alloc o) g base vi vt vf vs zs s := h.call (below1 w o)
/-- The cells by number. -/
theorem MRaw.reg (h : MRaw w g base vi vt vf vs zs s) {i : Nat} (h8 : i < 8) : w.cell? ⟨g, i * 2, none⟩ = some (.int .u64 (lo (s.regs.getD i 0))) ∧ w.cell? ⟨g, i * 2 + 1, none⟩ = some (.int .u64 (hi (s.regs.getD i 0))) := by
  have hl : i < s.regs.length := by rw [h.r8]; exact h8
  have h1 : s.regs[i]? = some (s.regs.getD i 0) := by rw [List.getD_eq_getElem?_getD, List.getElem?_eq_getElem hl]; rfl
  have h2 := vcells_at h1
  have h3 : (vcells s.regs).length = 16 := by rw [vcells_len, h.r8]
  exact ⟨h.row.cell (by unfold mcells; rw [List.getElem?_append_left (by omega)]; exact h2.1), h.row.cell (by unfold mcells; rw [List.getElem?_append_left (by omega)]; exact h2.2)⟩
theorem mcells_hi (r8 : s.regs.length = 8) (j : Nat) : (mcells s vi vt vf vs)[16 + j]? = (mrest s vi vt vf vs)[j]? := by
  have h3 : (vcells s.regs).length = 16 := by rw [vcells_len, r8]
  unfold mcells
  rw [List.getElem?_append_right (by omega), h3, Nat.add_sub_cancel_left]
theorem MRaw.far (h : MRaw w g base vi vt vf vs zs s) (j : Nat) {v : Value} (hv : (mrest s vi vt vf vs)[j]? = some v) : w.cell? ⟨g, 16 + j, none⟩ = some v := h.row.cell (by rw [mcells_hi h.r8]; exact hv)
theorem put_grown (w : World) (g k : Nat) (u : Value) : w.grownBy (w.setCell ⟨g, k, none⟩ u) (some g) := ⟨rfl, rfl, rfl, by simp [World.setCell], fun i _ hi => Below.heap_setCell w ⟨g, k, none⟩ u i (fun e => hi (by rw [e]))⟩
theorem put_grown2 (w : World) (g k k2 : Nat) (u u2 : Value) : w.grownBy ((w.setCell ⟨g, k, none⟩ u).setCell ⟨g, k2, none⟩ u2) (some g) := World.grownBy.trans (put_grown w g k u) (put_grown _ g k2 u2)
theorem MRaw.gB (h : MRaw w g base vi vt vf vs zs s) (hg : w.grownBy w' (some g)) : Below base w w' := (Below.refl _ _).grown hg h.bl (fun k hk => by injection hk with hk; have := h.gb; omega)
/-- A row of another type lies elsewhere. -/
theorem own_off {base e size n : Nat} {v : Value} {xs : List Value} {g : Nat} {cs : Array Value} {t : TypeId} {fr : Nat × Nat} (h : w.ownsRow base e size v n xs) (hg : w.heap[g]? = some (.cells cs t fr)) (ht : t ≠ e) : v.ownBlock = none ∨ v.ownBlock ≠ some g := by
  rcases h.2 with ⟨rfl, _⟩ | ⟨g', cap, cur, rfl, _, hh, _⟩
  · exact .inl rfl
  · refine .inr fun he => ?_
    injection he with he
    simp only at he
    rw [he, hg] at hh
    injection hh with hh
    injection hh with _ e3
    exact ht e3
theorem mcells_set (r8 : s.regs.length = 8) (j : Nat) (u : Value) : (mcells s vi vt vf vs).set (16 + j) u = vcells s.regs ++ (mrest s vi vt vf vs).set j u := by
  have h3 : (vcells s.regs).length = 16 := by rw [vcells_len, r8]
  unfold mcells
  rw [List.set_append_right _ _ (by omega), h3, Nat.add_sub_cancel_left]
/-- A store into the machine's own block. -/
theorem MRaw.store (h : MRaw w g base vi vt vf vs zs s) (k : Nat) (u : Value) {s' : Mch} {vi' : Value} (hc : (mcells s vi vt vf vs).set k u = mcells s' vi' vt vf vs) (hin : InAt w base vi' s'.inp) (hst : s'.st = s.st) (htr : s'.trace = s.trace) (hsp : s.steps ≤ s'.steps) (hr : s'.regs.length = 8) :
    MRaw (w.setCell ⟨g, k, none⟩ u) g base vi' vt vf vs zs s' := by
  have hg : w.grownBy (w.setCell ⟨g, k, none⟩ u) (some g) := ⟨rfl, rfl, rfl, by simp [World.setCell], fun i _ hi => Below.heap_setCell w ⟨g, k, none⟩ u i (fun e => hi (by rw [e]))⟩
  have hB : Below base w (w.setCell ⟨g, k, none⟩ u) := (Below.refl _ _).setCell h.gb _
  refine ⟨?_, h.gb, hr, hin.below hB, ?_, ?_, h.eq.trans hst.symm, h.asc, h.low, fun z hz => ?_⟩
  · have := h.row.set_ k u
    rwa [hc] at this
  · rw [htr]; exact h.tr.kept hg (own_off h.tr h.row (by decide))
  · rw [hst]; exact h.st.kept hg (own_off h.st h.row (by decide))
  · exact ⟨((h.maps z hz).1.setCell ⟨g, k, none⟩ ((h.maps z hz).1.not_row h.row) u).mono hsp, ((h.maps z hz).2.setCell ⟨g, k, none⟩ ((h.maps z hz).2.not_row h.row) u).mono hsp⟩
theorem MRaw.store2 (h : MRaw w g base vi vt vf vs zs s) (k k2 : Nat) (u u2 : Value) {s' : Mch} (hc : ((mcells s vi vt vf vs).set k u).set k2 u2 = mcells s' vi vt vf vs) (hin : s'.inp = s.inp) (hst : s'.st = s.st) (htr : s'.trace = s.trace) (hsp : s.steps ≤ s'.steps) (hr : s'.regs.length = 8) :
    MRaw ((w.setCell ⟨g, k, none⟩ u).setCell ⟨g, k2, none⟩ u2) g base vi vt vf vs zs s' := by
  have hg1 : w.grownBy (w.setCell ⟨g, k, none⟩ u) (some g) := ⟨rfl, rfl, rfl, by simp [World.setCell], fun i _ hi => Below.heap_setCell w ⟨g, k, none⟩ u i (fun e => hi (by rw [e]))⟩
  have hg2 : (w.setCell ⟨g, k, none⟩ u).grownBy ((w.setCell ⟨g, k, none⟩ u).setCell ⟨g, k2, none⟩ u2) (some g) := ⟨rfl, rfl, rfl, by simp [World.setCell], fun i _ hi => Below.heap_setCell _ ⟨g, k2, none⟩ u2 i (fun e => hi (by rw [e]))⟩
  have hg := World.grownBy.trans hg1 hg2
  have hB : Below base w ((w.setCell ⟨g, k, none⟩ u).setCell ⟨g, k2, none⟩ u2) := ((Below.refl _ _).setCell (p := ⟨g, k, none⟩) h.gb _).setCell (p := ⟨g, k2, none⟩) h.gb _
  have hr1 := h.row.set_ k u
  refine ⟨?_, h.gb, hr, ?_, ?_, ?_, h.eq.trans hst.symm, h.asc, h.low, fun z hz => ?_⟩
  · have := hr1.set_ k2 u2
    rwa [hc] at this
  · rw [hin]; exact h.inp.below hB
  · rw [htr]; exact h.tr.kept hg (own_off h.tr h.row (by decide))
  · rw [hst]; exact h.st.kept hg (own_off h.st h.row (by decide))
  · have q1 := (h.maps z hz).1.setCell ⟨g, k, none⟩ ((h.maps z hz).1.not_row h.row) u
    have q2 := (h.maps z hz).2.setCell ⟨g, k, none⟩ ((h.maps z hz).2.not_row h.row) u
    exact ⟨(q1.setCell ⟨g, k2, none⟩ (q1.not_row hr1) u2).mono hsp, (q2.setCell ⟨g, k2, none⟩ (q2.not_row hr1) u2).mono hsp⟩
theorem vcells_set (V : Nat) : ∀ (l : List Nat) (i : Nat), i < l.length → ((vcells l).set (i * 2) (.int .u64 (lo V))).set (i * 2 + 1) (.int .u64 (hi V)) = vcells (l.set i V)
  | [], i, h => by simp at h
  | U :: r, 0, _ => rfl
  | U :: r, i + 1, h => by
    have e : vcells (U :: r) = .int .u64 (lo U) :: .int .u64 (hi U) :: vcells r := rfl
    rw [e, show (i + 1) * 2 = i * 2 + 1 + 1 by omega, show i * 2 + 1 + 1 + 1 = (i * 2 + 1) + 1 + 1 by omega]
    simp only [List.set_cons_succ]
    rw [vcells_set V r i (by simpa using h)]
    rfl
theorem MRaw.setReg (h : MRaw w g base vi vt vf vs zs s) {i : Nat} (h8 : i < 8) (V : Nat) : MRaw ((w.setCell ⟨g, i * 2, none⟩ (.int .u64 (lo V))).setCell ⟨g, i * 2 + 1, none⟩ (.int .u64 (hi V))) g base vi vt vf vs zs (s.setR (i : Int) V) := by
  have h3 : (vcells s.regs).length = 16 := by rw [vcells_len, h.r8]
  refine h.store2 _ _ _ _ ?_ rfl rfl rfl (Nat.le_refl _) (by show (s.regs.set _ _).length = 8; rw [List.length_set]; exact h.r8)
  unfold mcells
  rw [List.set_append_left _ _ (by omega), List.set_append_left _ _ (by rw [List.length_set]; omega), vcells_set V s.regs i (by rw [h.r8]; exact h8)]
  rfl
theorem MRaw.stopped (h : MRaw w g base vi vt vf vs zs s) (k : Int) : MRaw ((w.setCell ⟨g, 17, none⟩ (.int .i64 k)).setCell ⟨g, 23, none⟩ (.bool true)) g base vi vt vf vs zs (s.stop k) := by
  have h1 := h.store 17 (.int .i64 k) (s' := { s with kind := k }) (mcells_set h.r8 1 _) h.inp rfl rfl (Nat.le_refl _) h.r8
  exact h1.store 23 (.bool true) (s' := s.stop k) (mcells_set h1.r8 7 _) h1.inp rfl rfl (Nat.le_refl _) h.r8
end
end Go.Proofs.YtlkikjgapingjaaDoor
end
