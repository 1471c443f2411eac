import Derived.Test.YtafegghdhdgioabGreatMKit
import Derived.Test.YtafegghdhdgioabGreatMEmath
import Derived.RegionTactic
import Derived.BigRegion
import Derived.BigQuiet
import Derived.Deep.DeepCutAuto
set_option linter.unusedVariables false
set_option linter.unusedSimpArgs false
section
/-
  The mathematics of a core (chapters 8 and 12): registers, input, fuel and the outcome so far; what its methods make of it. Nothing here names the program.
-/
namespace Go.Proofs.YtafegghdhdgioabGreat
open Go.RowKit

structure Co where
  inp : List Nat
  kind : Int
  code : Int
  res : Nat
  trace : List Nat
  steps : Nat
  regs : List Nat
  ended : Bool
def Co.reg (c : Co) (i : Int) : Nat := if 0 ≤ i ∧ i < 8 then c.regs.getD i.toNat 0 else 0
def Co.setR (c : Co) (i : Int) (v : Nat) : Co := if 0 ≤ i ∧ i < 8 then { c with regs := c.regs.set i.toNat v } else c
def Co.stop (c : Co) (k : Int) : Co := { c with kind := k, ended := true }
/-- Whether the run goes on, and what the question leaves. -/
def Co.asked (fu : Nat) (c : Co) : Co := if c.ended = false ∧ fu ≤ c.steps then c.stop 4 else c
def Co.ret (c : Co) : Co := ({ c with res := c.reg 0 } : Co).stop 0
def Co.next (c : Co) (x : Ins) (at_ : Int) : Int := if x.op = 20 then x.a else if x.op = 21 ∧ c.reg x.a % 18446744073709551616 ≠ 0 then x.b else at_ + 1
def Co.applyC (c : Co) (x : Ins) : Co := if opOk x.op (c.reg x.c) then c.setR x.a (opRes x.op (c.reg x.b) (c.reg x.c)) else c.stop 2
def Co.execC (c : Co) (x : Ins) : Co :=
  if x.op = 0 then c.setR x.a x.imm.toNat
  else if x.op = 1 then c.setR x.a (c.reg x.b)
  else if x.op = 11 then c.setR x.a (pairV (c.reg x.b) (c.reg x.c))
  else if x.op = 12 then c.setR x.a (highV (c.reg x.b))
  else if x.op = 13 then ({ c with inp := c.inp.tail } : Co).setR x.a (c.inp.headD 0)
  else if x.op = 14 then { c with trace := c.trace ++ [c.reg x.a] }
  else if x.op = 20 ∨ x.op = 21 then c
  else if x.op = 24 then ({ c with code := x.imm } : Co).stop 1
  else c.applyC x
/-- What every core of a run keeps. -/
structure SmallC (c : Co) : Prop where
  r8 : c.regs.length = 8
  rv : ∀ V ∈ c.regs, V < two128
  iv : ∀ v ∈ c.inp, v < 18446744073709551616
section
variable {c : Co}
theorem SmallC.reg (h : SmallC c) (i : Int) : c.reg i < two128 := by
  unfold Co.reg
  split
  · rw [List.getD_eq_getElem?_getD]
    cases e : c.regs[i.toNat]? with
    | none => decide
    | some V => exact h.rv V (List.mem_of_getElem? e)
  · decide
theorem Co.setR_in (c : Co) {i : Nat} (h : i < 8) (v : Nat) : c.setR (i : Int) v = { c with regs := c.regs.set i v } := by
  unfold Co.setR; rw [if_pos (by omega), Int.toNat_natCast]
theorem Co.reg_in (c : Co) {i : Nat} (h : i < 8) : c.reg (i : Int) = c.regs.getD i 0 := by
  unfold Co.reg; rw [if_pos (by omega), Int.toNat_natCast]
theorem Co.setR_out (c : Co) {i : Int} (h : ¬ (0 ≤ i ∧ i < 8)) (v : Nat) : c.setR i v = c := by unfold Co.setR; rw [if_neg h]
theorem Co.reg_out (c : Co) {i : Int} (h : ¬ (0 ≤ i ∧ i < 8)) : c.reg i = 0 := by unfold Co.reg; rw [if_neg h]
/-- The fields that setR leaves. -/
theorem Co.setR_keeps (c : Co) (i : Int) (v : Nat) : (c.setR i v).inp = c.inp ∧ (c.setR i v).kind = c.kind ∧ (c.setR i v).code = c.code ∧ (c.setR i v).res = c.res ∧ (c.setR i v).trace = c.trace ∧ (c.setR i v).steps = c.steps ∧ (c.setR i v).ended = c.ended := by
  unfold Co.setR; split <;> exact ⟨rfl, rfl, rfl, rfl, rfl, rfl, rfl⟩
theorem Co.setR_len (c : Co) (i : Int) (v : Nat) : (c.setR i v).regs.length = c.regs.length := by
  unfold Co.setR; split
  · exact List.length_set
  · rfl
theorem SmallC.setR (h : SmallC c) (i : Int) {v : Nat} (hv : v < two128) : SmallC (c.setR i v) := by
  obtain ⟨e1, _⟩ := c.setR_keeps i v
  refine ⟨by rw [Co.setR_len]; exact h.r8, fun V hV => ?_, by rw [e1]; exact h.iv⟩
  unfold Co.setR at hV
  split at hV
  · rcases List.mem_or_eq_of_mem_set hV with h1 | h1
    · exact h.rv V h1
    · rw [h1]; exact hv
  · exact h.rv V hV
theorem SmallC.stop (h : SmallC c) (k : Int) : SmallC (c.stop k) := ⟨h.r8, h.rv, h.iv⟩
theorem SmallC.execC (h : SmallC c) (x : Ins) (hm : 0 ≤ x.imm ∧ x.imm ≤ 18446744073709551615) : SmallC (c.execC x) := by
  have h64 : ∀ n, n < 18446744073709551616 → n < two128 := fun n hn => by unfold two128; omega
  unfold Co.execC
  split
  · exact h.setR _ (h64 _ (by omega))
  · split
    · exact h.setR _ (h.reg _)
    · split
      · exact h.setR _ (by unfold pairV two128; omega)
      · split
        · exact h.setR _ (by unfold highV two128; omega)
        · split
          · have h2 : SmallC { c with inp := c.inp.tail } := ⟨h.r8, h.rv, fun v hv => h.iv v (List.mem_of_mem_tail hv)⟩
            refine h2.setR _ (h64 _ ?_)
            cases e : c.inp with
            | nil => decide
            | cons v r => exact h.iv v (by rw [e]; simp)
          · split
            · exact ⟨h.r8, h.rv, h.iv⟩
            · split
              · exact h
              · split
                · exact (show SmallC { c with code := x.imm } from ⟨h.r8, h.rv, h.iv⟩).stop 1
                · unfold Co.applyC
                  split
                  · exact h.setR _ (opRes_lt _ _ _ (h.reg _) (h.reg _))
                  · exact h.stop 2
/-- What a step of a core leaves of output, steps and end. -/
structure CoMoved (c d : Co) : Prop where
  steps : d.steps = c.steps
  trace : ∃ l, d.trace = c.trace ++ l
  tl : d.trace.length ≤ c.trace.length + 1
  kind : d.ended = true → c.ended = true ∨ (0 ≤ d.kind ∧ d.kind ≤ 3)
theorem CoMoved.of {d : Co} (h1 : d.steps = c.steps) (h2 : d.trace = c.trace) (h3 : d.ended = true → c.ended = true ∨ (0 ≤ d.kind ∧ d.kind ≤ 3)) : CoMoved c d := ⟨h1, ⟨[], by rw [h2, List.append_nil]⟩, by rw [h2]; omega, h3⟩
theorem exec_moved (c : Co) (x : Ins) : CoMoved c (c.execC x) := by
  have hs : ∀ (c : Co) i v, CoMoved c (c.setR i v) := fun c i v => by
    obtain ⟨_, _, _, _, e6, e7, e8⟩ := c.setR_keeps i v
    exact CoMoved.of e7 e6 (fun h => .inl (by rw [← e8]; exact h))
  unfold Co.execC
  split
  · exact hs _ _ _
  · split
    · exact hs _ _ _
    · split
      · exact hs _ _ _
      · split
        · exact hs _ _ _
        · split
          · have h2 := hs ({ c with inp := c.inp.tail } : Co) x.a (c.inp.headD 0)
            exact ⟨h2.steps, h2.trace, h2.tl, h2.kind⟩
          · split
            · exact ⟨rfl, ⟨_, rfl⟩, by show (c.trace ++ [_]).length ≤ _; rw [List.length_append]; exact Nat.le_refl _, fun h => .inl h⟩
            · split
              · exact CoMoved.of rfl rfl (fun h => .inl h)
              · split
                · exact CoMoved.of rfl rfl (fun _ => .inr ⟨show (0 : Int) ≤ 1 by decide, show (1 : Int) ≤ 3 by decide⟩)
                · unfold Co.applyC
                  split
                  · exact hs _ _ _
                  · exact CoMoved.of rfl rfl (fun _ => .inr ⟨show (0 : Int) ≤ 2 by decide, show (2 : Int) ≤ 3 by decide⟩)
end
end Go.Proofs.YtafegghdhdgioabGreat
end

section
/-
  A core in memory (chapters 8 and 12): the first cells of a machine's block; what each store makes of it. No function of the program is named here.
-/
namespace Go.Proofs.YtafegghdhdgioabGreat
open Go.RowKit

/-- The cells of a core. -/
def ccells (fu : Nat) (c : Co) (vi vt : Value) : List Value :=
  [vi, .int .i64 (fu : Int), .int .i64 c.kind, .int .u64 c.code, .int .u64 (lo c.res), .int .u64 (hi c.res), vt, .int .i64 (c.steps : Int)] ++ (vcells c.regs ++ [.bool c.ended])
/-- The core c in memory: the first cells of block g of type T, behind them rest; all of its own from block base on. -/
structure CoAt (w : World) (g base : Nat) (T : TypeId) (fu : Nat) (vi vt : Value) (rest : List Value) (c : Co) : Prop where
  row : Row w g T (ccells fu c vi vt ++ rest)
  gb : base ≤ g
  nt : T ≠ 38
  r8 : c.regs.length = 8
  inp : InAt w base vi c.inp
  tr : w.ownsRow base 38 2 vt c.trace.length (vcells c.trace)
section
variable {w w' : World} {g base fu : Nat} {T : TypeId} {vi vt : Value} {rest : List Value} {c : Co}
theorem CoAt.gl (h : CoAt w g base T fu vi vt rest c) : g < w.heap.size := h.row.lt
theorem CoAt.bl (h : CoAt w g base T fu vi vt rest c) : base ≤ w.heap.size := by have := h.gl; have := h.gb; omega
theorem CoAt.call (h : CoAt w g base T fu vi vt rest c) (hb : Below w.heap.size w w') : CoAt w' g base T fu vi vt rest c := ⟨h.row.call hb, h.gb, h.nt, h.r8, h.inp.below (hb.mono h.bl), own_below h.tr hb⟩
theorem CoAt.drewN (h : CoAt w g base T fu vi vt rest c) (n : Nat) : CoAt (w.drewN n) g base T fu vi vt rest c := ⟨h.row, h.gb, h.nt, h.r8, h.inp, h.tr⟩
theorem CoAt.alloc (h : CoAt w g base T fu vi vt rest c) (o : Obj) : CoAt (w.alloc o) g base T fu vi vt rest c := h.call (below1 w o)
theorem CoAt.tlt (h : CoAt w g base T fu vi vt rest c) : ∀ k, vt.ownBlock = some k → base ≤ k := fun k hk => (h.tr.lt k hk).1
theorem CoAt.below (h : CoAt w g base T fu vi vt rest c) {vt' : Value} (hk : JKp w w' g vt vt') : Below base w w' := hk.below h.bl h.gb h.tlt
theorem CoAt.vlen (h : CoAt w g base T fu vi vt rest c) : (vcells c.regs).length = 16 := by rw [vcells_len, h.r8]
/-- The cells by number. -/
theorem CoAt.far (h : CoAt w g base T fu vi vt rest c) (j : Nat) {v : Value} (hv : (ccells fu c vi vt ++ rest)[j]? = some v) : w.cell? ⟨g, j, none⟩ = some v := h.row.cell hv
theorem ccells_reg (r8 : c.regs.length = 8) {i : Nat} (h8 : i < 8) : (ccells fu c vi vt ++ rest)[8 + i * 2]? = some (.int .u64 (lo (c.regs.getD i 0))) ∧ (ccells fu c vi vt ++ rest)[8 + i * 2 + 1]? = some (.int .u64 (hi (c.regs.getD i 0))) := by
  have h1 : c.regs[i]? = some (c.regs.getD i 0) := by rw [List.getD_eq_getElem?_getD, List.getElem?_eq_getElem (by omega)]; rfl
  have h2 := vcells_at h1
  have h3 : (vcells c.regs).length = 16 := by rw [vcells_len, r8]
  unfold ccells
  constructor
  · rw [List.append_assoc, List.getElem?_append_right (by simp), List.append_assoc, List.getElem?_append_left (by simp; omega)]
    rw [show 8 + i * 2 - [vi, .int .i64 (fu : Int), .int .i64 c.kind, .int .u64 c.code, .int .u64 (lo c.res), .int .u64 (hi c.res), vt, .int .i64 (c.steps : Int)].length = i * 2 by simp]
    exact h2.1
  · rw [List.append_assoc, List.getElem?_append_right (by simp; omega), List.append_assoc, List.getElem?_append_left (by simp; omega)]
    rw [show 8 + i * 2 + 1 - [vi, .int .i64 (fu : Int), .int .i64 c.kind, .int .u64 c.code, .int .u64 (lo c.res), .int .u64 (hi c.res), vt, .int .i64 (c.steps : Int)].length = i * 2 + 1 by simp; omega]
    exact h2.2
theorem ccells_end (r8 : c.regs.length = 8) (j : Nat) : (ccells fu c vi vt ++ rest)[24 + j]? = (.bool c.ended :: rest)[j]? := by
  have h3 : (vcells c.regs).length = 16 := by rw [vcells_len, r8]
  unfold ccells
  rw [List.append_assoc, List.getElem?_append_right (by simp; omega), List.append_assoc, List.getElem?_append_right (by simp; omega), List.singleton_append]
  congr 1
  simp
  omega
theorem CoAt.reg (h : CoAt w g base T fu vi vt rest c) {i : Nat} (h8 : i < 8) : w.cell? ⟨g, 8 + i * 2, none⟩ = some (.int .u64 (lo (c.regs.getD i 0))) ∧ w.cell? ⟨g, 8 + i * 2 + 1, none⟩ = some (.int .u64 (hi (c.regs.getD i 0))) :=
  ⟨h.row.cell (ccells_reg h.r8 h8).1, h.row.cell (ccells_reg h.r8 h8).2⟩
theorem CoAt.ended (h : CoAt w g base T fu vi vt rest c) : w.cell? ⟨g, 24, none⟩ = some (.bool c.ended) := h.row.cell (ccells_end h.r8 0)
/-- The output's row lies below what is made anew. -/
theorem tr_far (h : CoAt w g base T fu vi vt rest c) : ¬ vt.ownBlock = some w.heap.size := fun e => by have := (h.tr.lt _ e).2; omega
/-- What lies behind the core. -/
theorem CoAt.behind (h : CoAt w g base T fu vi vt rest c) (j : Nat) {v : Value} (hv : rest[j]? = some v) : w.cell? ⟨g, 25 + j, none⟩ = some v :=
  h.row.cell (by rw [show 25 + j = 24 + (j + 1) by omega, ccells_end h.r8]; exact hv)
theorem CoAt.off (h : CoAt w g base T fu vi vt rest c) {w7 : World} (hr : Row w7 g T (ccells fu c vi vt ++ rest)) : vt.ownBlock = none ∨ vt.ownBlock ≠ some g := own_offT h.tr h.row h.nt
/-- A store into one of the block's cells. -/
theorem CoAt.store (h : CoAt w g base T fu vi vt rest c) (k : Nat) (u : Value) {c' : Co} {vi' : Value} {fu' : Nat} {rest' : List Value} (hc : (ccells fu c vi vt ++ rest).set k u = ccells fu' c' vi' vt ++ rest') (hin : InAt w base vi' c'.inp) (htr : c'.trace = c.trace) (hr : c'.regs.length = 8) : CoAt (w.setCell ⟨g, k, none⟩ u) g base T fu' vi' vt rest' c' := by
  have hB : Below base w (w.setCell ⟨g, k, none⟩ u) := (Below.refl _ _).setCell h.gb _
  refine ⟨?_, h.gb, h.nt, hr, hin.below hB, ?_⟩
  · have := h.row.set_ k u
    rwa [hc] at this
  · rw [htr]; exact h.tr.kept (put_grown w g k u) (own_offT h.tr h.row h.nt)
theorem ccells_set_end (r8 : c.regs.length = 8) (j : Nat) (u : Value) : (ccells fu c vi vt ++ rest).set (24 + j) u = [vi, .int .i64 (fu : Int), .int .i64 c.kind, .int .u64 c.code, .int .u64 (lo c.res), .int .u64 (hi c.res), vt, .int .i64 (c.steps : Int)] ++ (vcells c.regs ++ (Value.bool c.ended :: rest).set j u) := by
  have h3 : (vcells c.regs).length = 16 := by rw [vcells_len, r8]
  unfold ccells
  rw [List.append_assoc, List.append_assoc, List.set_append_right _ _ (by simp; omega), List.set_append_right _ _ (by simp; omega), List.singleton_append]
  congr 3
  simp
  omega
theorem CoAt.setRest (h : CoAt w g base T fu vi vt rest c) (j : Nat) (u : Value) : CoAt (w.setCell ⟨g, 25 + j, none⟩ u) g base T fu vi vt (rest.set j u) c :=
  h.store (25 + j) u (by rw [show 25 + j = 24 + (j + 1) by omega, ccells_set_end h.r8]; unfold ccells; simp [List.append_assoc]) h.inp rfl h.r8
theorem ccells_regs (r8 : c.regs.length = 8) {i : Nat} (h8 : i < 8) (V : Nat) : ((ccells fu c vi vt ++ rest).set (8 + i * 2) (.int .u64 (lo V))).set (8 + i * 2 + 1) (.int .u64 (hi V)) = ccells fu { c with regs := c.regs.set i V } vi vt ++ rest := by
  have h3 : (vcells c.regs).length = 16 := by rw [vcells_len, r8]
  unfold ccells
  rw [List.append_assoc, List.append_assoc, List.set_append_right _ _ (by simp), List.set_append_right _ _ (by simp; omega)]
  rw [show 8 + i * 2 - [vi, .int .i64 (fu : Int), .int .i64 c.kind, .int .u64 c.code, .int .u64 (lo c.res), .int .u64 (hi c.res), vt, .int .i64 (c.steps : Int)].length = i * 2 by simp]
  rw [show 8 + i * 2 + 1 - [vi, .int .i64 (fu : Int), .int .i64 c.kind, .int .u64 c.code, .int .u64 (lo c.res), .int .u64 (hi c.res), vt, .int .i64 (c.steps : Int)].length = i * 2 + 1 by simp; omega]
  rw [List.set_append_left _ _ (by omega), List.set_append_left _ _ (by rw [List.length_set]; omega), vcells_set V c.regs i (by omega)]
  simp [List.append_assoc]
theorem CoAt.setReg (h : CoAt w g base T fu vi vt rest c) {i : Nat} (h8 : i < 8) (V : Nat) : CoAt ((w.setCell ⟨g, 8 + i * 2, none⟩ (.int .u64 (lo V))).setCell ⟨g, 8 + i * 2 + 1, none⟩ (.int .u64 (hi V))) g base T fu vi vt rest (c.setR (i : Int) V) := by
  rw [c.setR_in h8]
  have hg := put_grown2 w g (8 + i * 2) (8 + i * 2 + 1) (.int .u64 (lo V)) (.int .u64 (hi V))
  have hB : Below base w ((w.setCell ⟨g, 8 + i * 2, none⟩ (.int .u64 (lo V))).setCell ⟨g, 8 + i * 2 + 1, none⟩ (.int .u64 (hi V))) := (Below.refl _ _).grown hg h.bl (fun k hk => by injection hk with hk; have := h.gb; omega)
  refine ⟨?_, h.gb, h.nt, by show (c.regs.set i V).length = 8; rw [List.length_set]; exact h.r8, h.inp.below hB, h.tr.kept hg (own_offT h.tr h.row h.nt)⟩
  have := (h.row.set_ (8 + i * 2) (.int .u64 (lo V))).set_ (8 + i * 2 + 1) (.int .u64 (hi V))
  rwa [ccells_regs h.r8 h8 V] at this
theorem JKp.set2 (w : World) (g k k2 : Nat) (v u u2 : Value) : JKp w ((w.setCell ⟨g, k, none⟩ u).setCell ⟨g, k2, none⟩ u2) g v v := (JKp.set w g k v u).trans (JKp.set _ g k2 v u2)
theorem CoAt.stopped (h : CoAt w g base T fu vi vt rest c) (k : Int) : CoAt ((w.setCell ⟨g, 2, none⟩ (.int .i64 k)).setCell ⟨g, 24, none⟩ (.bool true)) g base T fu vi vt rest (c.stop k) := by
  have h1 := h.store 2 (.int .i64 k) (c' := { c with kind := k }) (fu' := fu) (vi' := vi) (rest' := rest) rfl h.inp rfl h.r8
  exact h1.store 24 (.bool true) (c' := c.stop k) (fu' := fu) (vi' := vi) (rest' := rest) (by rw [show 24 = 24 + 0 from rfl, ccells_set_end h1.r8]; unfold ccells Co.stop; simp) h1.inp rfl h1.r8
theorem JKp.drew (h : JKp w w' g vt vt) (n : Nat) : JKp w (w'.drewN n) g vt vt := ⟨h.os, h.tape, h.output, h.size, h.blk, h.own⟩
end
/-- Only the block g, and rows of values from block base on, may have turned. -/
structure CKp (w w' : World) (g base : Nat) : Prop where
  os : w'.os = w.os
  tape : w'.tape = w.tape
  output : w'.output = w.output
  size : w.heap.size ≤ w'.heap.size
  blk : ∀ k, k < w.heap.size → k ≠ g → (base ≤ k → ∀ cs fr, w.heap[k]? ≠ some (.cells cs 38 fr)) → w'.heap[k]? = w.heap[k]?
section
variable {w w' w'' : World} {g base : Nat}
theorem CKp.refl (w : World) (g base : Nat) : CKp w w g base := ⟨rfl, rfl, rfl, Nat.le_refl _, fun _ _ _ _ => rfl⟩
theorem CKp.trans (h : CKp w w' g base) (h' : CKp w' w'' g base) : CKp w w'' g base :=
  ⟨h'.os.trans h.os, h'.tape.trans h.tape, h'.output.trans h.output, Nat.le_trans h.size h'.size, fun k hk h1 h2 => by
    have e := h.blk k hk h1 h2
    exact (h'.blk k (Nat.lt_of_lt_of_le hk h.size) h1 (fun hb cs fr => by rw [e]; exact h2 hb cs fr)).trans e⟩
theorem CKp.of_below (h : Below w.heap.size w w') (g base : Nat) : CKp w w' g base := ⟨h.os, h.tape, h.output, h.size, fun k hk _ _ => h.block k hk⟩
theorem CKp.set (w : World) (g base k : Nat) (u : Value) : CKp w (w.setCell ⟨g, k, none⟩ u) g base :=
  have h := grown_put1 w g k u
  ⟨h.os, h.tape, h.output, h.size, fun j hj h1 _ => h.block j hj (fun e => h1 (by injection e))⟩
theorem own_type {w : World} {base : Nat} {e : TypeId} {size n : Nat} {v : Value} {xs : List Value} (h : w.ownsRow base e size v n xs) {k : Nat} (hk : v.ownBlock = some k) : base ≤ k ∧ ∃ cs fr, w.heap[k]? = some (.cells cs e fr) := by
  rcases h.2 with ⟨rfl, _⟩ | ⟨j, cap, cur, rfl, hb, hh, _⟩
  · cases hk
  · injection hk with hk
    simp only at hk
    subst hk
    exact ⟨hb, _, _, hh⟩
theorem CKp.of_row {v : Value} {n : Nat} {xs : List Value} (h : w.grownBy w' v.ownBlock) (ho : w.ownsRow base 38 2 v n xs) (g : Nat) : CKp w w' g base :=
  ⟨h.os, h.tape, h.output, h.size, fun k hk _ h2 => h.block k hk (fun e => by
    obtain ⟨hb, cs, fr, hh⟩ := own_type ho (k := k) (by first | exact e | exact e.symm)
    exact h2 hb cs fr hh)⟩
theorem JKp.weak {v v' : Value} {n : Nat} {xs : List Value} (h : JKp w w' g v v') (ho : w.ownsRow base 38 2 v n xs) : CKp w w' g base :=
  ⟨h.os, h.tape, h.output, h.size, fun k hk h1 h2 => h.blk k hk h1 (fun e => by
    obtain ⟨hb, cs, fr, hh⟩ := own_type ho e
    exact h2 hb cs fr hh)⟩
theorem CKp.row {j t : Nat} {cs : List Value} (h : CKp w w' g base) (r : Row w j t cs) (h1 : j ≠ g) (h2 : j < base ∨ t ≠ 38) : Row w' j t cs := by
  unfold Row
  rw [h.blk j r.lt h1 (fun hb cs' fr e => by
    unfold Row at r
    rw [r] at e
    injection e with e
    injection e with _ e2
    rcases h2 with h2 | h2
    · omega
    · exact h2 e2)]
  exact r
theorem CKp.below {B : Nat} (h : CKp w w' g base) (hB : B ≤ w.heap.size) (h1 : B ≤ g) (h2 : B ≤ base) : Below B w w' :=
  ⟨h.os, h.tape, h.output, h.size, fun k hk => h.blk k (by omega) (by omega) (fun e => by omega)⟩
/-- A row of another type. -/
theorem CKp.own {e : TypeId} {size n : Nat} {v : Value} {xs : List Value} {b2 : Nat} (h : CKp w w' g base) (ho : w.ownsRow b2 e size v n xs) (he : e ≠ 38) (hg : v.ownBlock ≠ some g) : w'.ownsRow b2 e size v n xs := by
  refine ⟨ho.1, ?_⟩
  rcases ho.2 with h2 | ⟨j, cap, cur, rfl, hb, hh, hr⟩
  · exact .inl h2
  · refine .inr ⟨j, cap, cur, rfl, hb, ?_, hr⟩
    rw [h.blk j (Array.getElem?_eq_some_iff.1 hh).1 (fun e => hg (by rw [e]; rfl)) (fun _ cs fr e2 => by
      rw [hh] at e2
      injection e2 with e2
      injection e2 with _ e3
      exact he e3)]
    exact hh
end
end Go.Proofs.YtafegghdhdgioabGreat
end

section
/-
  The contracts of the core's small methods: End, Goes, Return, Register, Set, Next. Conditions: those of the types.
-/
namespace Go.Proofs.YtafegghdhdgioabGreat
open Go.RowKit

/-- A number of two words. -/
def lo2 (V u : Nat) : Nat := V % 18446744073709551616 + 18446744073709551616 * u
theorem lo2_lo (V u : Nat) : lo (lo2 V u) = lo V := by unfold lo lo2; omega
theorem hi_lt (V : Nat) : (hi V).toNat < 18446744073709551616 := by unfold hi; omega
theorem lo2_hi (V W : Nat) (h : (hi W).toNat < 18446744073709551616) : hi (lo2 V (hi W).toNat) = hi W := by unfold hi lo2 at *; omega
section
variable {w0 : World} {g base fu : Nat} {T : TypeId} {vi vt : Value} {rest : List Value} {c : Co}
set_option maxHeartbeats 1000000 in
theorem coEnd_any (k : Int) (w : World) (h : Hid (CoAt w g base T fu vi vt rest c)) :
    Calls Tryz.prog 64 #[.pointer (some ⟨g, 0, none⟩), .int .i64 k] w fun e w' => e = .returned (.tuple #[]) ∧ CoAt w' g base T fu vi vt rest (c.stop k) ∧ JKp w w' g vt vt := by
  have c0 := h.out.far 2 rfl
  have c1 := h.out.ended
  have z0 := h.out.row.free 2
  have z1 := h.out.row.free 24
  go_enter Tryz.func64, Tryz.ntmps64
  go_wp2_with fail
  go_end0
  exact ⟨rfl, h.out.stopped k, JKp.set2 w g 2 24 vt _ _⟩
set_option maxHeartbeats 2000000 in
theorem coGoes_any (w : World) (h : Hid (CoAt w g base T fu vi vt rest c)) (hf : fu ≤ 1000000) (hs : c.steps ≤ 1000000) :
    Calls Tryz.prog 44 #[.pointer (some ⟨g, 0, none⟩)] w fun e w' => e = .returned (.bool (!(c.asked fu).ended)) ∧ CoAt w' g base T fu vi vt rest (c.asked fu) ∧ JKp w w' g vt vt := by
  have c1 := h.out.far 1 rfl
  have c7 := h.out.far 7 rfl
  have ce := h.out.ended
  cases he : c.ended with
  | true =>
    have ha : c.asked fu = c := by unfold Co.asked; rw [if_neg (by rw [he]; simp)]
    rw [ha, he]
    rw [he] at ce
    clear he ha
    go_enter Tryz.func44, Tryz.ntmps44
    go_wp2_with fail
    go_quiet (fail)
    go_wp2_with fail
    go_ret
    exact ⟨rfl, h.out.drewN _, JKp.of_below (below_draws (Below.refl _ _) _) g vt⟩
  | false =>
    rw [he] at ce
    by_cases hlt : fu ≤ c.steps
    · have ha : c.asked fu = c.stop 4 := by unfold Co.asked; rw [if_pos ⟨he, hlt⟩]
      rw [ha]
      have hd : decide ((fu : Int) ≤ (c.steps : Int)) = true := decide_eq_true (by omega)
      have cn := fun W hW => coEnd_any (g := g) (base := base) (T := T) (fu := fu) (vi := vi) (vt := vt) (rest := rest) (c := c) 4 W hW
      clear he ha
      go_enter Tryz.func44, Tryz.ntmps44
      go_wp2_with fail
      go_quiet (fail)
      go_wp2_with fail
      refine (cn _ (hide (h.out.drewN _))).mono ?_
      rintro e w1 ⟨rfl, h1, k1⟩
      have ce1 := h1.ended
      have H1 := hide h1
      have K1 := hide k1
      clear h1 k1 cn c1 c7 ce
      go_wp2_with fail
      go_ret
      exact ⟨rfl, H1.out, (JKp.of_below (below_draws (Below.refl _ _) _) g vt).trans K1.out⟩
    · have ha : c.asked fu = c := by unfold Co.asked; rw [if_neg (fun h => hlt h.2)]
      rw [ha, he]
      have hd : decide ((fu : Int) ≤ (c.steps : Int)) = false := decide_eq_false (by omega)
      clear he ha
      go_enter Tryz.func44, Tryz.ntmps44
      go_wp2_with fail
      go_quiet (fail)
      go_wp2_with fail
      go_ret
      exact ⟨rfl, h.out.drewN _, JKp.of_below (below_draws (Below.refl _ _) _) g vt⟩
/-- A store of a whole value into two cells that lie side by side. -/
theorem CoAt.setRes (h : CoAt w0 g base T fu vi vt rest c) (V : Nat) : CoAt ((w0.setCell ⟨g, 4, none⟩ (.int .u64 (lo V))).setCell ⟨g, 5, none⟩ (.int .u64 (hi V))) g base T fu vi vt rest { c with res := V } := by
  have h1 := h.store 4 (.int .u64 (lo V)) (c' := { c with res := lo2 V (hi c.res).toNat }) (fu' := fu) (vi' := vi) (rest' := rest) (by
    unfold ccells
    rw [show hi (lo2 V (hi c.res).toNat) = hi c.res from lo2_hi _ _ (hi_lt _), show lo (lo2 V (hi c.res).toNat) = lo V from lo2_lo _ _]
    rfl) h.inp rfl h.r8
  exact h1.store 5 (.int .u64 (hi V)) (c' := { c with res := V }) (fu' := fu) (vi' := vi) (rest' := rest) (by
    unfold ccells
    rw [show lo (lo2 V (hi c.res).toNat) = lo V from lo2_lo _ _]
    rfl) h1.inp rfl h1.r8
set_option maxHeartbeats 2000000 in
theorem coReturn_any (w : World) (h : Hid (CoAt w g base T fu vi vt rest c)) :
    Calls Tryz.prog 102 #[.pointer (some ⟨g, 0, none⟩)] w fun e w' => e = .returned (.tuple #[]) ∧ CoAt w' g base T fu vi vt rest c.ret ∧ JKp w w' g vt vt := by
  obtain ⟨r0, r1⟩ := h.out.reg (i := 0) (by decide)
  have z0 := h.out.row.free 4
  have z1 := h.out.row.free 5
  have c4 := h.out.far 4 rfl
  have c5 := h.out.far 5 rfl
  obtain ⟨V, hV⟩ : ∃ V, c.regs.getD 0 0 = V := ⟨_, rfl⟩
  have hc : c.ret = ({ c with res := V } : Co).stop 0 := by unfold Co.ret; rw [show c.reg 0 = V by rw [← hV]; exact c.reg_in (i := 0) (by decide)]
  rw [hV] at r0 r1
  rw [hc]
  obtain ⟨W1, hW1⟩ : ∃ W, (w.setCell ⟨g, 4, none⟩ (.int .u64 (lo V))).setCell ⟨g, 5, none⟩ (.int .u64 (hi V)) = W := ⟨_, rfl⟩
  have H1 := hide (show CoAt W1 g base T fu vi vt rest { c with res := V } by rw [← hW1]; exact h.out.setRes V)
  have K1 := hide (show JKp w W1 g vt vt by rw [← hW1]; exact JKp.set2 w g 4 5 vt _ _)
  have cn := coEnd_any 0 W1 H1
  have HW1 := hide hW1
  clear hW1 hV hc
  go_enter Tryz.func102, Tryz.ntmps102
  go_upto_region 1 with (first | go_region)
  rw [HW1.out]
  go_wp2_with fail
  refine cn.mono ?_
  rintro e w2 ⟨rfl, h2, k2⟩
  have H2 := hide h2
  have K2 := hide k2
  clear h2 k2 cn
  go_wp2_with fail
  go_end0
  exact ⟨rfl, H2.out, K1.out.trans K2.out⟩
set_option maxHeartbeats 2000000 in
theorem coReg_any (n : Int) (w : World) (h : Hid (CoAt w g base T fu vi vt rest c)) :
    Calls Tryz.prog 95 #[.pointer (some ⟨g, 0, none⟩), .int .i64 n] w fun e w' => e = .returned (vv (c.reg n)) ∧ Below w.heap.size w w' := by
  have hb := hide (below1 w (.cells #[.int .u64 0, .int .u64 0] 38))
  obtain ⟨W1, hW1⟩ : ∃ W, w.alloc (.cells #[.int .u64 0, .int .u64 0] 38) = W := ⟨_, rfl⟩
  have HW1 := hide hW1
  have R1 := hide (show Row W1 w.heap.size 38 [.int .u64 0, .int .u64 0] by rw [← hW1]; exact Row.new w _ _)
  have H1 := hide (show CoAt W1 g base T fu vi vt rest c by rw [← hW1]; exact h.out.alloc _)
  rw [hW1] at hb
  have hgl := h.out.gl
  have x0 := R1.out.cell (k := 0) rfl
  have x1 := R1.out.cell (k := 1) rfl
  have f0 := R1.out.free 0
  have f1 := R1.out.free 1
  have B1 : Hid (Below w.heap.size w W1) := hb
  have key : ∀ a b, Below w.heap.size w ((W1.setCell ⟨w.heap.size, 0, none⟩ a).setCell ⟨w.heap.size, 1, none⟩ b) := fun a b => (B1.out.setCell (p := ⟨w.heap.size, 0, none⟩) (Nat.le_refl _) a).setCell (p := ⟨w.heap.size, 1, none⟩) (Nat.le_refl _) b
  have KEY := hide key
  clear hW1 key hb
  by_cases hn : 0 ≤ n ∧ n < 8
  · obtain ⟨i, rfl⟩ : ∃ i : Nat, n = (i : Int) := ⟨n.toNat, by omega⟩
    have hi : i < 8 := by omega
    rw [c.reg_in hi]
    obtain ⟨r0, r1⟩ := H1.out.reg hi
    obtain ⟨V, hV⟩ : ∃ V, c.regs.getD i 0 = V := ⟨_, rfl⟩
    rw [hV] at r0 r1 ⊢
    have d0 : decide ((i : Int) < 0) = false := decide_eq_false (by omega)
    have d1 : decide ((8 : Int) ≤ (i : Int)) = false := decide_eq_false (by omega)
    clear hV hn
    go_enter Tryz.func95, Tryz.ntmps95
    go_upto_region 1 with (fail)
    rw [HW1.out]
    go_wp2_with (first | go_region)
    exact bodyPost_ret (v := vv V) (by simp [results, Tryz.results95, go_sem, f0, f1, x0, x1]) rfl ⟨rfl, KEY.out _ _⟩
  · rw [c.reg_out hn]
    have h0 : lo 0 = 0 := rfl
    have h1 : hi 0 = 0 := rfl
    rcases (show n < 0 ∨ (¬ n < 0 ∧ 8 ≤ n) by omega) with d0 | ⟨d0, d1⟩
    all_goals
      clear hn
      go_enter Tryz.func95, Tryz.ntmps95
      go_upto_region 1 with (fail)
      rw [HW1.out]
      go_wp2_with (first | go_region)
      exact bodyPost_ret (v := vv 0) (by simp [results, Tryz.results95, go_sem, f0, f1, x0, x1]; exact ⟨rfl, rfl⟩) rfl ⟨rfl, KEY.out _ _⟩
set_option maxHeartbeats 2000000 in
theorem coSet_any (n : Int) (V : Nat) (w : World) (h : Hid (CoAt w g base T fu vi vt rest c)) :
    Calls Tryz.prog 97 #[.pointer (some ⟨g, 0, none⟩), .int .i64 n, vv V] w fun e w' => e = .returned (.tuple #[]) ∧ CoAt w' g base T fu vi vt rest (c.setR n V) ∧ JKp w w' g vt vt := by
  obtain ⟨W1, hW1⟩ : ∃ W, w.alloc (.cells #[.int .u64 (lo V), .int .u64 (hi V)] 38) = W := ⟨_, rfl⟩
  have HW1 := hide hW1
  have R1 := hide (show Row W1 w.heap.size 38 [.int .u64 (lo V), .int .u64 (hi V)] by rw [← hW1]; exact Row.new w _ _)
  have H1 := hide (show CoAt W1 g base T fu vi vt rest c by rw [← hW1]; exact h.out.alloc _)
  have K1 := hide (show JKp w W1 g vt vt by rw [← hW1]; exact JKp.of_below (below1 w _) g vt)
  have x0 := R1.out.cell (k := 0) rfl
  have x1 := R1.out.cell (k := 1) rfl
  clear hW1
  by_cases hn : 0 ≤ n ∧ n < 8
  · obtain ⟨i, rfl⟩ : ∃ i : Nat, n = (i : Int) := ⟨n.toNat, by omega⟩
    have hi : i < 8 := by omega
    obtain ⟨r0, r1⟩ := H1.out.reg hi
    have z0 := H1.out.row.free (8 + i * 2)
    have z1 := H1.out.row.free (8 + i * 2 + 1)
    have d0 : decide ((0 : Int) ≤ (i : Int)) = true := decide_eq_true (by omega)
    have d1 : decide ((i : Int) < 8) = true := decide_eq_true (by omega)
    clear hn
    go_enter Tryz.func97, Tryz.ntmps97
    go_upto_region 1 with (fail)
    rw [HW1.out]
    go_wp2_with (first | go_region)
    go_end0
    exact ⟨rfl, (H1.out.setReg hi V).drewN _, (K1.out.trans (JKp.set2 _ g _ _ vt _ _)).drew _⟩
  · rw [c.setR_out hn]
    rcases (show (0 ≤ n ∧ 8 ≤ n) ∨ n < 0 by omega) with ⟨d0, d1⟩ | d0
    all_goals
      clear hn
      go_enter Tryz.func97, Tryz.ntmps97
      go_upto_region 1 with (fail)
      rw [HW1.out]
      go_wp2_with (first | go_region)
      go_end0
      exact ⟨rfl, H1.out, K1.out⟩
end
end Go.Proofs.YtafegghdhdgioabGreat
end
