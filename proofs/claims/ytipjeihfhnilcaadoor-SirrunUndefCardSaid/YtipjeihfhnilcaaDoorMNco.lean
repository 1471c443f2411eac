import Derived.Test.YtipjeihfhnilcaaDoorMVbox
import Derived.Test.YtipjeihfhnilcaaDoorMVbits
import Derived.Test.YtipjeihfhnilcaaDoorMEpw
import Derived.Test.YtipjeihfhnilcaaDoorMZscn
import Derived.Maps.AppendAt
set_option linter.unusedVariables false
set_option linter.unusedSimpArgs false
section
/-
  The mathematics of a core (chapters 8 and 12): registers, input, fuel and the outcome so far; what its methods make of it. Nothing here names the program.
-/
namespace Go.Proofs.YtipjeihfhnilcaaDoor
open Go.RowKit

structure Co where
  inp : List Nat
  kind : Int
  code : Int
  res : Nat
  trace : List Nat
  steps : Nat
  regs : List Nat
  ended : Bool
def Co.reg (c : Co) (i : Int) : Nat := if 0 ≤ i ∧ i < 8 then c.regs.getD i.toNat 0 else 0
def Co.setR (c : Co) (i : Int) (v : Nat) : Co := if 0 ≤ i ∧ i < 8 then { c with regs := c.regs.set i.toNat v } else c
def Co.stop (c : Co) (k : Int) : Co := { c with kind := k, ended := true }
/-- Whether the run goes on, and what the question leaves. -/
def Co.asked (fu : Nat) (c : Co) : Co := if c.ended = false ∧ fu ≤ c.steps then c.stop 4 else c
def Co.ret (c : Co) : Co := ({ c with res := c.reg 0 } : Co).stop 0
def Co.next (c : Co) (x : Ins) (at_ : Int) : Int := if x.op = 20 then x.a else if x.op = 21 ∧ c.reg x.a % 18446744073709551616 ≠ 0 then x.b else at_ + 1
def Co.applyC (c : Co) (x : Ins) : Co := if opOk x.op (c.reg x.c) then c.setR x.a (opRes x.op (c.reg x.b) (c.reg x.c)) else c.stop 2
def Co.execC (c : Co) (x : Ins) : Co :=
  if x.op = 0 then c.setR x.a x.imm.toNat
  else if x.op = 1 then c.setR x.a (c.reg x.b)
  else if x.op = 11 then c.setR x.a (pairV (c.reg x.b) (c.reg x.c))
  else if x.op = 12 then c.setR x.a (highV (c.reg x.b))
  else if x.op = 13 then ({ c with inp := c.inp.tail } : Co).setR x.a (c.inp.headD 0)
  else if x.op = 14 then { c with trace := c.trace ++ [c.reg x.a] }
  else if x.op = 20 ∨ x.op = 21 then c
  else if x.op = 24 then ({ c with code := x.imm } : Co).stop 1
  else c.applyC x
/-- What every core of a run keeps. -/
structure SmallC (c : Co) : Prop where
  r8 : c.regs.length = 8
  rv : ∀ V ∈ c.regs, V < two128
  iv : ∀ v ∈ c.inp, v < 18446744073709551616
section
variable {c : Co}
theorem SmallC.reg (h : SmallC c) (i : Int) : c.reg i < two128 := by
  unfold Co.reg
  split
  · rw [List.getD_eq_getElem?_getD]
    cases e : c.regs[i.toNat]? with
    | none => decide
    | some V => exact h.rv V (List.mem_of_getElem? e)
  · decide
theorem Co.setR_in (c : Co) {i : Nat} (h : i < 8) (v : Nat) : c.setR (i : Int) v = { c with regs := c.regs.set i v } := by
  unfold Co.setR; rw [if_pos (by omega), Int.toNat_natCast]
theorem Co.reg_in (c : Co) {i : Nat} (h : i < 8) : c.reg (i : Int) = c.regs.getD i 0 := by
  unfold Co.reg; rw [if_pos (by omega), Int.toNat_natCast]
theorem Co.setR_out (c : Co) {i : Int} (h : ¬ (0 ≤ i ∧ i < 8)) (v : Nat) : c.setR i v = c := by unfold Co.setR; rw [if_neg h]
theorem Co.reg_out (c : Co) {i : Int} (h : ¬ (0 ≤ i ∧ i < 8)) : c.reg i = 0 := by unfold Co.reg; rw [if_neg h]
/-- The fields that setR leaves. -/
theorem Co.setR_keeps (c : Co) (i : Int) (v : Nat) : (c.setR i v).inp = c.inp ∧ (c.setR i v).kind = c.kind ∧ (c.setR i v).code = c.code ∧ (c.setR i v).res = c.res ∧ (c.setR i v).trace = c.trace ∧ (c.setR i v).steps = c.steps ∧ (c.setR i v).ended = c.ended := by
  unfold Co.setR; split <;> exact ⟨rfl, rfl, rfl, rfl, rfl, rfl, rfl⟩
theorem Co.setR_len (c : Co) (i : Int) (v : Nat) : (c.setR i v).regs.length = c.regs.length := by
  unfold Co.setR; split
  · exact List.length_set
  · rfl
theorem SmallC.setR (h : SmallC c) (i : Int) {v : Nat} (hv : v < two128) : SmallC (c.setR i v) := by
  obtain ⟨e1, _⟩ := c.setR_keeps i v
  refine ⟨by rw [Co.setR_len]; exact h.r8, fun V hV => ?_, by rw [e1]; exact h.iv⟩
  unfold Co.setR at hV
  split at hV
  · rcases List.mem_or_eq_of_mem_set hV with h1 | h1
    · exact h.rv V h1
    · rw [h1]; exact hv
  · exact h.rv V hV
theorem SmallC.stop (h : SmallC c) (k : Int) : SmallC (c.stop k) := ⟨h.r8, h.rv, h.iv⟩
theorem SmallC.execC (h : SmallC c) (x : Ins) (hm : 0 ≤ x.imm ∧ x.imm ≤ 18446744073709551615) : SmallC (c.execC x) := by
  have h64 : ∀ n, n < 18446744073709551616 → n < two128 := fun n hn => by unfold two128; omega
  unfold Co.execC
  split
  · exact h.setR _ (h64 _ (by omega))
  · split
    · exact h.setR _ (h.reg _)
    · split
      · exact h.setR _ (by unfold pairV two128; omega)
      · split
        · exact h.setR _ (by unfold highV two128; omega)
        · split
          · have h2 : SmallC { c with inp := c.inp.tail } := ⟨h.r8, h.rv, fun v hv => h.iv v (List.mem_of_mem_tail hv)⟩
            refine h2.setR _ (h64 _ ?_)
            cases e : c.inp with
            | nil => decide
            | cons v r => exact h.iv v (by rw [e]; simp)
          · split
            · exact ⟨h.r8, h.rv, h.iv⟩
            · split
              · exact h
              · split
                · exact (show SmallC { c with code := x.imm } from ⟨h.r8, h.rv, h.iv⟩).stop 1
                · unfold Co.applyC
                  split
                  · exact h.setR _ (opRes_lt _ _ _ (h.reg _) (h.reg _))
                  · exact h.stop 2
/-- What a step of a core leaves of output, steps and end. -/
structure CoMoved (c d : Co) : Prop where
  steps : d.steps = c.steps
  trace : ∃ l, d.trace = c.trace ++ l
  tl : d.trace.length ≤ c.trace.length + 1
  kind : d.ended = true → c.ended = true ∨ (0 ≤ d.kind ∧ d.kind ≤ 3)
theorem CoMoved.of {d : Co} (h1 : d.steps = c.steps) (h2 : d.trace = c.trace) (h3 : d.ended = true → c.ended = true ∨ (0 ≤ d.kind ∧ d.kind ≤ 3)) : CoMoved c d := ⟨h1, ⟨[], by rw [h2, List.append_nil]⟩, by rw [h2]; omega, h3⟩
theorem exec_moved (c : Co) (x : Ins) : CoMoved c (c.execC x) := by
  have hs : ∀ (c : Co) i v, CoMoved c (c.setR i v) := fun c i v => by
    obtain ⟨_, _, _, _, e6, e7, e8⟩ := c.setR_keeps i v
    exact CoMoved.of e7 e6 (fun h => .inl (by rw [← e8]; exact h))
  unfold Co.execC
  split
  · exact hs _ _ _
  · split
    · exact hs _ _ _
    · split
      · exact hs _ _ _
      · split
        · exact hs _ _ _
        · split
          · have h2 := hs ({ c with inp := c.inp.tail } : Co) x.a (c.inp.headD 0)
            exact ⟨h2.steps, h2.trace, h2.tl, h2.kind⟩
          · split
            · exact ⟨rfl, ⟨_, rfl⟩, by show (c.trace ++ [_]).length ≤ _; rw [List.length_append]; exact Nat.le_refl _, fun h => .inl h⟩
            · split
              · exact CoMoved.of rfl rfl (fun h => .inl h)
              · split
                · exact CoMoved.of rfl rfl (fun _ => .inr ⟨show (0 : Int) ≤ 1 by decide, show (1 : Int) ≤ 3 by decide⟩)
                · unfold Co.applyC
                  split
                  · exact hs _ _ _
                  · exact CoMoved.of rfl rfl (fun _ => .inr ⟨show (0 : Int) ≤ 2 by decide, show (2 : Int) ≤ 3 by decide⟩)
end
end Go.Proofs.YtipjeihfhnilcaaDoor
end

section
/-
  A core in memory (chapters 8 and 12): the first cells of a machine's block; what each store makes of it. No function of the program is named here.
-/
namespace Go.Proofs.YtipjeihfhnilcaaDoor
open Go.RowKit

/-- The cells of a core. -/
def ccells (fu : Nat) (c : Co) (vi vt : Value) : List Value :=
  [vi, .int .i64 (fu : Int), .int .i64 c.kind, .int .u64 c.code, .int .u64 (lo c.res), .int .u64 (hi c.res), vt, .int .i64 (c.steps : Int)] ++ (vcells c.regs ++ [.bool c.ended])
/-- The core c in memory: the first cells of block g of type T, behind them rest; all of its own from block base on. -/
structure CoAt (w : World) (g base : Nat) (T : TypeId) (fu : Nat) (vi vt : Value) (rest : List Value) (c : Co) : Prop where
  row : Row w g T (ccells fu c vi vt ++ rest)
  gb : base ≤ g
  nt : T ≠ 33
  r8 : c.regs.length = 8
  inp : InAt w base vi c.inp
  tr : w.ownsRow base 33 2 vt c.trace.length (vcells c.trace)
section
variable {w w' : World} {g base fu : Nat} {T : TypeId} {vi vt : Value} {rest : List Value} {c : Co}
theorem CoAt.gl (h : CoAt w g base T fu vi vt rest c) : g < w.heap.size := h.row.lt
theorem CoAt.bl (h : CoAt w g base T fu vi vt rest c) : base ≤ w.heap.size := by have := h.gl; have := h.gb; omega
theorem CoAt.call (h : CoAt w g base T fu vi vt rest c) (hb : Below w.heap.size w w') : CoAt w' g base T fu vi vt rest c := ⟨h.row.call hb, h.gb, h.nt, h.r8, h.inp.below (hb.mono h.bl), own_below h.tr hb⟩
theorem CoAt.drewN (h : CoAt w g base T fu vi vt rest c) (n : Nat) : CoAt (w.drewN n) g base T fu vi vt rest c := ⟨h.row, h.gb, h.nt, h.r8, h.inp, h.tr⟩
theorem CoAt.alloc (h : CoAt w g base T fu vi vt rest c) (o : Obj) : CoAt (w.alloc o) g base T fu vi vt rest c := h.call (below1 w o)
theorem CoAt.tlt (h : CoAt w g base T fu vi vt rest c) : ∀ k, vt.ownBlock = some k → base ≤ k := fun k hk => (h.tr.lt k hk).1
theorem CoAt.below (h : CoAt w g base T fu vi vt rest c) {vt' : Value} (hk : JKp w w' g vt vt') : Below base w w' := hk.below h.bl h.gb h.tlt
theorem CoAt.vlen (h : CoAt w g base T fu vi vt rest c) : (vcells c.regs).length = 16 := by rw [vcells_len, h.r8]
/-- The cells by number. -/
theorem CoAt.far (h : CoAt w g base T fu vi vt rest c) (j : Nat) {v : Value} (hv : (ccells fu c vi vt ++ rest)[j]? = some v) : w.cell? ⟨g, j, none⟩ = some v := h.row.cell hv
theorem ccells_reg (r8 : c.regs.length = 8) {i : Nat} (h8 : i < 8) : (ccells fu c vi vt ++ rest)[8 + i * 2]? = some (.int .u64 (lo (c.regs.getD i 0))) ∧ (ccells fu c vi vt ++ rest)[8 + i * 2 + 1]? = some (.int .u64 (hi (c.regs.getD i 0))) := by
  have h1 : c.regs[i]? = some (c.regs.getD i 0) := by rw [List.getD_eq_getElem?_getD, List.getElem?_eq_getElem (by omega)]; rfl
  have h2 := vcells_at h1
  have h3 : (vcells c.regs).length = 16 := by rw [vcells_len, r8]
  unfold ccells
  constructor
  · rw [List.append_assoc, List.getElem?_append_right (by simp), List.append_assoc, List.getElem?_append_left (by simp; omega)]
    rw [show 8 + i * 2 - [vi, .int .i64 (fu : Int), .int .i64 c.kind, .int .u64 c.code, .int .u64 (lo c.res), .int .u64 (hi c.res), vt, .int .i64 (c.steps : Int)].length = i * 2 by simp]
    exact h2.1
  · rw [List.append_assoc, List.getElem?_append_right (by simp; omega), List.append_assoc, List.getElem?_append_left (by simp; omega)]
    rw [show 8 + i * 2 + 1 - [vi, .int .i64 (fu : Int), .int .i64 c.kind, .int .u64 c.code, .int .u64 (lo c.res), .int .u64 (hi c.res), vt, .int .i64 (c.steps : Int)].length = i * 2 + 1 by simp; omega]
    exact h2.2
theorem ccells_end (r8 : c.regs.length = 8) (j : Nat) : (ccells fu c vi vt ++ rest)[24 + j]? = (.bool c.ended :: rest)[j]? := by
  have h3 : (vcells c.regs).length = 16 := by rw [vcells_len, r8]
  unfold ccells
  rw [List.append_assoc, List.getElem?_append_right (by simp; omega), List.append_assoc, List.getElem?_append_right (by simp; omega), List.singleton_append]
  congr 1
  simp
  omega
theorem CoAt.reg (h : CoAt w g base T fu vi vt rest c) {i : Nat} (h8 : i < 8) : w.cell? ⟨g, 8 + i * 2, none⟩ = some (.int .u64 (lo (c.regs.getD i 0))) ∧ w.cell? ⟨g, 8 + i * 2 + 1, none⟩ = some (.int .u64 (hi (c.regs.getD i 0))) :=
  ⟨h.row.cell (ccells_reg h.r8 h8).1, h.row.cell (ccells_reg h.r8 h8).2⟩
theorem CoAt.ended (h : CoAt w g base T fu vi vt rest c) : w.cell? ⟨g, 24, none⟩ = some (.bool c.ended) := h.row.cell (ccells_end h.r8 0)
/-- The output's row lies below what is made anew. -/
theorem tr_far (h : CoAt w g base T fu vi vt rest c) : ¬ vt.ownBlock = some w.heap.size := fun e => by have := (h.tr.lt _ e).2; omega
/-- What lies behind the core. -/
theorem CoAt.behind (h : CoAt w g base T fu vi vt rest c) (j : Nat) {v : Value} (hv : rest[j]? = some v) : w.cell? ⟨g, 25 + j, none⟩ = some v :=
  h.row.cell (by rw [show 25 + j = 24 + (j + 1) by omega, ccells_end h.r8]; exact hv)
theorem CoAt.off (h : CoAt w g base T fu vi vt rest c) {w7 : World} (hr : Row w7 g T (ccells fu c vi vt ++ rest)) : vt.ownBlock = none ∨ vt.ownBlock ≠ some g := own_offT h.tr h.row h.nt
/-- A store into one of the block's cells. -/
theorem CoAt.store (h : CoAt w g base T fu vi vt rest c) (k : Nat) (u : Value) {c' : Co} {vi' : Value} {fu' : Nat} {rest' : List Value} (hc : (ccells fu c vi vt ++ rest).set k u = ccells fu' c' vi' vt ++ rest') (hin : InAt w base vi' c'.inp) (htr : c'.trace = c.trace) (hr : c'.regs.length = 8) : CoAt (w.setCell ⟨g, k, none⟩ u) g base T fu' vi' vt rest' c' := by
  have hB : Below base w (w.setCell ⟨g, k, none⟩ u) := (Below.refl _ _).setCell h.gb _
  refine ⟨?_, h.gb, h.nt, hr, hin.below hB, ?_⟩
  · have := h.row.set_ k u
    rwa [hc] at this
  · rw [htr]; exact h.tr.kept (put_grown w g k u) (own_offT h.tr h.row h.nt)
theorem ccells_set_end (r8 : c.regs.length = 8) (j : Nat) (u : Value) : (ccells fu c vi vt ++ rest).set (24 + j) u = [vi, .int .i64 (fu : Int), .int .i64 c.kind, .int .u64 c.code, .int .u64 (lo c.res), .int .u64 (hi c.res), vt, .int .i64 (c.steps : Int)] ++ (vcells c.regs ++ (Value.bool c.ended :: rest).set j u) := by
  have h3 : (vcells c.regs).length = 16 := by rw [vcells_len, r8]
  unfold ccells
  rw [List.append_assoc, List.append_assoc, List.set_append_right _ _ (by simp; omega), List.set_append_right _ _ (by simp; omega), List.singleton_append]
  congr 3
  simp
  omega
theorem CoAt.setRest (h : CoAt w g base T fu vi vt rest c) (j : Nat) (u : Value) : CoAt (w.setCell ⟨g, 25 + j, none⟩ u) g base T fu vi vt (rest.set j u) c :=
  h.store (25 + j) u (by rw [show 25 + j = 24 + (j + 1) by omega, ccells_set_end h.r8]; unfold ccells; simp [List.append_assoc]) h.inp rfl h.r8
theorem ccells_regs (r8 : c.regs.length = 8) {i : Nat} (h8 : i < 8) (V : Nat) : ((ccells fu c vi vt ++ rest).set (8 + i * 2) (.int .u64 (lo V))).set (8 + i * 2 + 1) (.int .u64 (hi V)) = ccells fu { c with regs := c.regs.set i V } vi vt ++ rest := by
  have h3 : (vcells c.regs).length = 16 := by rw [vcells_len, r8]
  unfold ccells
  rw [List.append_assoc, List.append_assoc, List.set_append_right _ _ (by simp), List.set_append_right _ _ (by simp; omega)]
  rw [show 8 + i * 2 - [vi, .int .i64 (fu : Int), .int .i64 c.kind, .int .u64 c.code, .int .u64 (lo c.res), .int .u64 (hi c.res), vt, .int .i64 (c.steps : Int)].length = i * 2 by simp]
  rw [show 8 + i * 2 + 1 - [vi, .int .i64 (fu : Int), .int .i64 c.kind, .int .u64 c.code, .int .u64 (lo c.res), .int .u64 (hi c.res), vt, .int .i64 (c.steps : Int)].length = i * 2 + 1 by simp; omega]
  rw [List.set_append_left _ _ (by omega), List.set_append_left _ _ (by rw [List.length_set]; omega), vcells_set V c.regs i (by omega)]
  simp [List.append_assoc]
theorem CoAt.setReg (h : CoAt w g base T fu vi vt rest c) {i : Nat} (h8 : i < 8) (V : Nat) : CoAt ((w.setCell ⟨g, 8 + i * 2, none⟩ (.int .u64 (lo V))).setCell ⟨g, 8 + i * 2 + 1, none⟩ (.int .u64 (hi V))) g base T fu vi vt rest (c.setR (i : Int) V) := by
  rw [c.setR_in h8]
  have hg := put_grown2 w g (8 + i * 2) (8 + i * 2 + 1) (.int .u64 (lo V)) (.int .u64 (hi V))
  have hB : Below base w ((w.setCell ⟨g, 8 + i * 2, none⟩ (.int .u64 (lo V))).setCell ⟨g, 8 + i * 2 + 1, none⟩ (.int .u64 (hi V))) := (Below.refl _ _).grown hg h.bl (fun k hk => by injection hk with hk; have := h.gb; omega)
  refine ⟨?_, h.gb, h.nt, by show (c.regs.set i V).length = 8; rw [List.length_set]; exact h.r8, h.inp.below hB, h.tr.kept hg (own_offT h.tr h.row h.nt)⟩
  have := (h.row.set_ (8 + i * 2) (.int .u64 (lo V))).set_ (8 + i * 2 + 1) (.int .u64 (hi V))
  rwa [ccells_regs h.r8 h8 V] at this
theorem JKp.set2 (w : World) (g k k2 : Nat) (v u u2 : Value) : JKp w ((w.setCell ⟨g, k, none⟩ u).setCell ⟨g, k2, none⟩ u2) g v v := (JKp.set w g k v u).trans (JKp.set _ g k2 v u2)
theorem CoAt.stopped (h : CoAt w g base T fu vi vt rest c) (k : Int) : CoAt ((w.setCell ⟨g, 2, none⟩ (.int .i64 k)).setCell ⟨g, 24, none⟩ (.bool true)) g base T fu vi vt rest (c.stop k) := by
  have h1 := h.store 2 (.int .i64 k) (c' := { c with kind := k }) (fu' := fu) (vi' := vi) (rest' := rest) rfl h.inp rfl h.r8
  exact h1.store 24 (.bool true) (c' := c.stop k) (fu' := fu) (vi' := vi) (rest' := rest) (by rw [show 24 = 24 + 0 from rfl, ccells_set_end h1.r8]; unfold ccells Co.stop; simp) h1.inp rfl h1.r8
theorem JKp.drew (h : JKp w w' g vt vt) (n : Nat) : JKp w (w'.drewN n) g vt vt := ⟨h.os, h.tape, h.output, h.size, h.blk, h.own⟩
end
/-- Only the block g, and rows of values from block base on, may have turned. -/
structure CKp (w w' : World) (g base : Nat) : Prop where
  os : w'.os = w.os
  tape : w'.tape = w.tape
  output : w'.output = w.output
  size : w.heap.size ≤ w'.heap.size
  blk : ∀ k, k < w.heap.size → k ≠ g → (base ≤ k → ∀ cs fr, w.heap[k]? ≠ some (.cells cs 33 fr)) → w'.heap[k]? = w.heap[k]?
section
variable {w w' w'' : World} {g base : Nat}
theorem CKp.refl (w : World) (g base : Nat) : CKp w w g base := ⟨rfl, rfl, rfl, Nat.le_refl _, fun _ _ _ _ => rfl⟩
theorem CKp.trans (h : CKp w w' g base) (h' : CKp w' w'' g base) : CKp w w'' g base :=
  ⟨h'.os.trans h.os, h'.tape.trans h.tape, h'.output.trans h.output, Nat.le_trans h.size h'.size, fun k hk h1 h2 => by
    have e := h.blk k hk h1 h2
    exact (h'.blk k (Nat.lt_of_lt_of_le hk h.size) h1 (fun hb cs fr => by rw [e]; exact h2 hb cs fr)).trans e⟩
theorem CKp.of_below (h : Below w.heap.size w w') (g base : Nat) : CKp w w' g base := ⟨h.os, h.tape, h.output, h.size, fun k hk _ _ => h.block k hk⟩
theorem CKp.set (w : World) (g base k : Nat) (u : Value) : CKp w (w.setCell ⟨g, k, none⟩ u) g base :=
  have h := grown_put1 w g k u
  ⟨h.os, h.tape, h.output, h.size, fun j hj h1 _ => h.block j hj (fun e => h1 (by injection e))⟩
theorem own_type {w : World} {base : Nat} {e : TypeId} {size n : Nat} {v : Value} {xs : List Value} (h : w.ownsRow base e size v n xs) {k : Nat} (hk : v.ownBlock = some k) : base ≤ k ∧ ∃ cs fr, w.heap[k]? = some (.cells cs e fr) := by
  rcases h.2 with ⟨rfl, _⟩ | ⟨j, cap, cur, rfl, hb, hh, _⟩
  · cases hk
  · injection hk with hk
    simp only at hk
    subst hk
    exact ⟨hb, _, _, hh⟩
theorem CKp.of_row {v : Value} {n : Nat} {xs : List Value} (h : w.grownBy w' v.ownBlock) (ho : w.ownsRow base 33 2 v n xs) (g : Nat) : CKp w w' g base :=
  ⟨h.os, h.tape, h.output, h.size, fun k hk _ h2 => h.block k hk (fun e => by
    obtain ⟨hb, cs, fr, hh⟩ := own_type ho (k := k) (by first | exact e | exact e.symm)
    exact h2 hb cs fr hh)⟩
theorem JKp.weak {v v' : Value} {n : Nat} {xs : List Value} (h : JKp w w' g v v') (ho : w.ownsRow base 33 2 v n xs) : CKp w w' g base :=
  ⟨h.os, h.tape, h.output, h.size, fun k hk h1 h2 => h.blk k hk h1 (fun e => by
    obtain ⟨hb, cs, fr, hh⟩ := own_type ho e
    exact h2 hb cs fr hh)⟩
theorem CKp.row {j t : Nat} {cs : List Value} (h : CKp w w' g base) (r : Row w j t cs) (h1 : j ≠ g) (h2 : j < base ∨ t ≠ 33) : Row w' j t cs := by
  unfold Row
  rw [h.blk j r.lt h1 (fun hb cs' fr e => by
    unfold Row at r
    rw [r] at e
    injection e with e
    injection e with _ e2
    rcases h2 with h2 | h2
    · omega
    · exact h2 e2)]
  exact r
theorem CKp.below {B : Nat} (h : CKp w w' g base) (hB : B ≤ w.heap.size) (h1 : B ≤ g) (h2 : B ≤ base) : Below B w w' :=
  ⟨h.os, h.tape, h.output, h.size, fun k hk => h.blk k (by omega) (by omega) (fun e => by omega)⟩
/-- A row of another type. -/
theorem CKp.own {e : TypeId} {size n : Nat} {v : Value} {xs : List Value} {b2 : Nat} (h : CKp w w' g base) (ho : w.ownsRow b2 e size v n xs) (he : e ≠ 33) (hg : v.ownBlock ≠ some g) : w'.ownsRow b2 e size v n xs := by
  refine ⟨ho.1, ?_⟩
  rcases ho.2 with h2 | ⟨j, cap, cur, rfl, hb, hh, hr⟩
  · exact .inl h2
  · refine .inr ⟨j, cap, cur, rfl, hb, ?_, hr⟩
    rw [h.blk j (Array.getElem?_eq_some_iff.1 hh).1 (fun e => hg (by rw [e]; rfl)) (fun _ cs fr e2 => by
      rw [hh] at e2
      injection e2 with e2
      injection e2 with _ e3
      exact he e3)]
    exact hh
end
end Go.Proofs.YtipjeihfhnilcaaDoor
end

section
/-
  The core of a source machine (chapter 8), and a step of the machine said by its core's methods. Nothing here names the program.
-/
namespace Go.Proofs.YtipjeihfhnilcaaDoor
open Go.RowKit

/-- The core of a machine, and a machine with another one. -/
def Mch.co (s : Mch) : Co := ⟨s.inp, s.kind, s.code, s.res, s.trace, s.steps, s.regs, s.ended⟩
def Mch.withCo (s : Mch) (c : Co) : Mch := { s with inp := c.inp, kind := c.kind, code := c.code, res := c.res, trace := c.trace, steps := c.steps, regs := c.regs, ended := c.ended }
section
variable {F : Pg} {s : Mch}
theorem co_reg (s : Mch) {i : Int} (h : 0 ≤ i ∧ i < 8) : s.co.reg i = s.reg i := by unfold Co.reg; rw [if_pos h]; rfl
theorem co_setR (s : Mch) {i : Int} (h : 0 ≤ i ∧ i < 8) (V : Nat) : s.withCo (s.co.setR i V) = s.setR i V := by unfold Co.setR; rw [if_pos h]; rfl
theorem co_compute (s : Mch) {x : Ins} (ho : x.op ≤ 14) (ha : 0 ≤ x.a ∧ x.a < 8) (hb : 0 ≤ x.b ∧ x.b < 8) (hc : 0 ≤ x.c ∧ x.c < 8) : s.withCo (s.co.execC x) = s.computeM x := by
  unfold Co.execC Mch.computeM
  by_cases h0 : x.op = 0
  · rw [if_pos h0, if_pos h0, co_setR s ha]
  rw [if_neg h0, if_neg h0]
  by_cases h1 : x.op = 1
  · rw [if_pos h1, if_pos h1, co_setR s ha, co_reg s hb]
  rw [if_neg h1, if_neg h1]
  by_cases h2 : x.op = 11
  · rw [if_pos h2, if_pos h2, co_setR s ha, co_reg s hb, co_reg s hc]
  rw [if_neg h2, if_neg h2]
  by_cases h3 : x.op = 12
  · rw [if_pos h3, if_pos h3, co_setR s ha, co_reg s hb]
  rw [if_neg h3, if_neg h3]
  by_cases h4 : x.op = 13
  · rw [if_pos h4, if_pos h4]
    unfold Co.setR
    rw [if_pos ha]
    rfl
  rw [if_neg h4, if_neg h4]
  by_cases h5 : x.op = 14
  · rw [if_pos h5, if_pos h5, co_reg s ha]; rfl
  rw [if_neg h5, if_neg h5, if_neg (by omega), if_neg (by omega)]
  unfold Co.applyC Mch.applyM
  rw [co_reg s hb, co_reg s hc]
  cases hq : opOk x.op (s.reg x.c) with
  | true => simp only [if_true]; exact co_setR s ha _
  | false => simp only [Bool.false_eq_true, if_false]; rfl
/-- The machine behind the instruction's fetch, as the program does it: the next one is named at once. -/
def Mch.fetchN (s : Mch) (x : Ins) : Mch := ({ s with steps := s.steps + 1 } : Mch).jump (s.co.next x (s.top.pc : Int)).toNat
theorem next_plain (s : Mch) {x : Ins} (h : x.op ≠ 20) (h2 : x.op ≠ 21) (pc : Nat) : (s.co.next x (pc : Int)).toNat = pc + 1 := by
  unfold Co.next; rw [if_neg h, if_neg (fun e => h2 e.1)]; omega
theorem fetchN_plain (s : Mch) {x : Ins} (h : x.op ≠ 20) (h2 : x.op ≠ 21) : s.fetchN x = s.fetched := by unfold Mch.fetchN Mch.fetched; rw [next_plain s h h2]
theorem jump_jump (s : Mch) (h : s.st ≠ []) (m n : Nat) : (s.jump m).jump n = s.jump n := by
  obtain ⟨ys, z, e⟩ : ∃ ys z, s.st = ys ++ [z] := ⟨s.st.dropLast, s.st.getLast h, (List.dropLast_concat_getLast h).symm⟩
  obtain ⟨_, _, _, _, _, _, _, _, st, _⟩ := s
  simp only at e
  subst e
  simp [Mch.jump, Mch.setTop, Mch.top]
/-- A step, by what the core does. -/
theorem stepN_mem (x : Ins) (hx : s.next F = x) (h : 15 ≤ x.op ∧ x.op ≤ 19) : s.stepM F = (s.fetchN x).accessM F x := by
  unfold Mch.stepM Mch.exec; rw [hx, if_pos h, fetchN_plain s (by omega) (by omega)]
theorem stepN_call (x : Ins) (hx : s.next F = x) (h : x.op = 22) : s.stepM F = (s.fetchN x).enter x.a.toNat := by
  unfold Mch.stepM Mch.exec Mch.transferM; rw [hx, if_neg (by omega), if_pos (by omega), if_neg (by omega), if_neg (by omega), if_pos h, fetchN_plain s (by omega) (by omega)]
theorem stepN_ret (x : Ins) (hx : s.next F = x) (h : x.op = 23) : s.stepM F = (s.fetchN x).leave := by
  unfold Mch.stepM Mch.exec Mch.transferM; rw [hx, if_neg (by omega), if_pos (by omega), if_neg (by omega), if_neg (by omega), if_neg (by omega), if_pos h, fetchN_plain s (by omega) (by omega)]
theorem stepN_core (hv : Vld F s) (x : Ins) (hx : s.next F = x) (ho : 0 ≤ x.op ∧ x.op < 25) (h : ¬ (15 ≤ x.op ∧ x.op ≤ 19)) (h2 : x.op ≠ 22) (h3 : x.op ≠ 23) (ha : x.op ≤ 14 ∨ x.op = 21 → 0 ≤ x.a ∧ x.a < 8) (hb : x.op ≤ 14 → 0 ≤ x.b ∧ x.b < 8) (hc : x.op ≤ 14 → 0 ≤ x.c ∧ x.c < 8) :
    s.stepM F = (s.fetchN x).withCo ((s.fetchN x).co.execC x) := by
  have hne : s.st ≠ [] := by intro e; have := hv.ne; rw [e] at this; simp at this
  unfold Mch.stepM Mch.exec
  rw [hx, if_neg h]
  by_cases h14 : x.op ≤ 14
  · rw [if_neg (by omega), fetchN_plain s (by omega) (by omega), co_compute s.fetched h14 (ha (.inl h14)) (hb h14) (hc h14)]
  · rw [if_pos (by omega)]
    unfold Mch.transferM
    by_cases h20 : x.op = 20
    · rw [if_pos h20]
      have e : (s.fetchN x).co.execC x = (s.fetchN x).co := by unfold Co.execC; rw [if_neg (by omega), if_neg (by omega), if_neg (by omega), if_neg (by omega), if_neg (by omega), if_neg (by omega), if_pos (.inl h20)]
      rw [e]
      show s.fetched.jump x.a.toNat = s.fetchN x
      unfold Mch.fetched Mch.fetchN
      rw [jump_jump { s with steps := s.steps + 1 } hne]
      have : s.co.next x (s.top.pc : Int) = x.a := by unfold Co.next; rw [if_pos h20]
      rw [this]
    · rw [if_neg h20]
      by_cases h21 : x.op = 21
      · rw [if_pos h21]
        have e : (s.fetchN x).co.execC x = (s.fetchN x).co := by unfold Co.execC; rw [if_neg (by omega), if_neg (by omega), if_neg (by omega), if_neg (by omega), if_neg (by omega), if_neg (by omega), if_pos (.inr h21)]
        rw [e]
        have hr : s.co.reg x.a = s.reg x.a := co_reg s (ha (.inr h21))
        show (if s.reg x.a % 18446744073709551616 = 0 then s.fetched else s.fetched.jump x.b.toNat) = s.fetchN x
        unfold Mch.fetched Mch.fetchN
        by_cases h0 : s.reg x.a % 18446744073709551616 = 0
        · rw [if_pos h0]
          have : (s.co.next x (s.top.pc : Int)).toNat = s.top.pc + 1 := by unfold Co.next; rw [if_neg h20, hr, if_neg (fun e => e.2 h0)]; omega
          rw [this]
        · rw [if_neg h0, jump_jump { s with steps := s.steps + 1 } hne]
          have : s.co.next x (s.top.pc : Int) = x.b := by unfold Co.next; rw [if_neg h20, hr, if_pos ⟨h21, h0⟩]
          rw [this]
      · have h24 : x.op = 24 := by omega
        rw [if_neg h21, if_neg h2, if_neg h3, fetchN_plain s h20 h21]
        unfold Co.execC
        rw [if_neg (by omega), if_neg (by omega), if_neg (by omega), if_neg (by omega), if_neg (by omega), if_neg (by omega), if_neg (by omega), if_pos h24]
        rfl
end
end Go.Proofs.YtipjeihfhnilcaaDoor
end

section
/-
  A machine of the source language in memory (chapter 8): its block (a core, and what lies behind it), its stack of activations; what each store makes of it. No function of the program is named here.
-/
namespace Go.Proofs.YtipjeihfhnilcaaDoor
open Go.RowKit

/-- What lies behind the core. -/
def zrest (s : Mch) (vf vs : Value) : List Value := [vf, vs, .int .i64 (s.depth : Int)]
/-- An activation with its maps' blocks. -/
abbrev Zn := Acn × Nat × Nat
def acell (z : Zn) : List Value := [.int .i64 (z.1.f : Int), .int .i64 (z.1.pc : Int), .map (some z.2.1), .map (some z.2.2)]
def acells (l : List Zn) : List Value := l.flatMap acell
theorem acell_len (z : Zn) : (acell z).length = 4 := rfl
theorem acells_len (l : List Zn) : (acells l).length = l.length * 4 := flat_len acell_len l
theorem acells_app (l m : List Zn) : acells (l ++ m) = acells l ++ acells m := by simp [acells]
theorem acells_oneCell (l : List Zn) : ∀ v ∈ acells l, v.oneCell' = true := by
  intro v hv
  simp only [acells, List.mem_flatMap] at hv
  obtain ⟨x, _, hv⟩ := hv
  simp [acell] at hv
  rcases hv with rfl | rfl | rfl | rfl <;> rfl
theorem acells_at {l : List Zn} {k : Nat} {z : Zn} (h : l[k]? = some z) : (acells l)[k * 4]? = some (.int .i64 (z.1.f : Int)) ∧ (acells l)[k * 4 + 1]? = some (.int .i64 (z.1.pc : Int)) ∧ (acells l)[k * 4 + 2]? = some (.map (some z.2.1)) ∧ (acells l)[k * 4 + 3]? = some (.map (some z.2.2)) :=
  ⟨flat_at acell_len l k z h 0 (by omega), flat_at acell_len l k z h 1 (by omega), flat_at acell_len l k z h 2 (by omega), flat_at acell_len l k z h 3 (by omega)⟩
def blocksZ (l : List Zn) : List Nat := l.flatMap fun z => [z.2.1, z.2.2]
/-- The machine s in memory: its block g; all of its own from block base on. -/
structure MRaw (w : World) (g base fu : Nat) (vi vt vf vs : Value) (zs : List Zn) (s : Mch) : Prop where
  core : CoAt w g base 69 fu vi vt (zrest s vf vs) s.co
  st : w.ownsRow base 88 4 vs s.st.length (acells zs)
  eq : zs.map (·.1) = s.st
  asc : (blocksZ zs).Pairwise (· < ·)
  low : ∀ b ∈ blocksZ zs, base ≤ b
  maps : ∀ z ∈ zs, CellsAt w z.2.1 s.steps z.1.sl ∧ CellsAt w z.2.2 s.steps z.1.ar
section
variable {w w' : World} {g base fu : Nat} {vi vt vf vs : Value} {zs : List Zn} {s : Mch}
theorem MRaw.gl (h : MRaw w g base fu vi vt vf vs zs s) : g < w.heap.size := h.core.gl
theorem MRaw.gb (h : MRaw w g base fu vi vt vf vs zs s) : base ≤ g := h.core.gb
theorem MRaw.r8 (h : MRaw w g base fu vi vt vf vs zs s) : s.regs.length = 8 := h.core.r8
theorem MRaw.bl (h : MRaw w g base fu vi vt vf vs zs s) : base ≤ w.heap.size := h.core.bl
theorem MRaw.row (h : MRaw w g base fu vi vt vf vs zs s) : Row w g 69 (ccells fu s.co vi vt ++ zrest s vf vs) := h.core.row
theorem MRaw.len (h : MRaw w g base fu vi vt vf vs zs s) : zs.length = s.st.length := by rw [← h.eq, List.length_map]
/-- Over a call that leaves all as it was. -/
theorem MRaw.call (h : MRaw w g base fu vi vt vf vs zs s) (hb : Below w.heap.size w w') : MRaw w' g base fu vi vt vf vs zs s :=
  ⟨h.core.call hb, own_below h.st hb, h.eq, h.asc, h.low, fun z hz => ⟨(h.maps z hz).1.below hb (h.maps z hz).1.lt, (h.maps z hz).2.below hb (h.maps z hz).2.lt⟩⟩
theorem MRaw.drewN (h : MRaw w g base fu vi vt vf vs zs s) (n : Nat) : MRaw (w.drewN n) g base fu vi vt vf vs zs s := ⟨h.core.drewN n, h.st, h.eq, h.asc, h.low, h.maps⟩
theorem MRaw.alloc (h : MRaw w g base fu vi vt vf vs zs s) (o : Obj) : MRaw (w.alloc o) g base fu vi vt vf vs zs s := h.call (below1 w o)
/-- The cells by number. -/
theorem MRaw.reg (h : MRaw w g base fu vi vt vf vs zs s) {i : Nat} (h8 : i < 8) : w.cell? ⟨g, 8 + i * 2, none⟩ = some (.int .u64 (lo (s.regs.getD i 0))) ∧ w.cell? ⟨g, 8 + i * 2 + 1, none⟩ = some (.int .u64 (hi (s.regs.getD i 0))) := h.core.reg h8
theorem MRaw.far (h : MRaw w g base fu vi vt vf vs zs s) (j : Nat) {v : Value} (hv : (zrest s vf vs)[j]? = some v) : w.cell? ⟨g, 25 + j, none⟩ = some v := h.core.behind j hv
theorem MRaw.free (h : MRaw w g base fu vi vt vf vs zs s) (j : Nat) : w.frozen? ⟨g, j, none⟩ = false := h.core.row.free j
theorem MRaw.gB (h : MRaw w g base fu vi vt vf vs zs s) (hg : w.grownBy w' (some g)) : Below base w w' := (Below.refl _ _).grown hg h.bl (fun k hk => by injection hk with hk; have := h.gb; omega)
theorem MRaw.belowC (h : MRaw w g base fu vi vt vf vs zs s) (hk : CKp w w' g base) : Below base w w' := hk.below h.bl h.core.gb (Nat.le_refl _)
/-- A map is no row. -/
theorem CellsAt.keptC {b K : Nat} {m : Cl} (h : CellsAt w b K m) (hk : CKp w w' g base) (hg : b ≠ g) : CellsAt w' b K m := by
  have e := hk.blk b h.lt hg (fun _ cs fr e => h.not_row e rfl)
  obtain ⟨D, ⟨es, clock, h1, h3⟩, h2⟩ := h
  exact ⟨D, ⟨es, clock, e.trans h1, h3⟩, h2⟩
/-- The core is turned. -/
theorem MRaw.cored (h : MRaw w g base fu vi vt vf vs zs s) {vi' vt' : Value} {c : Co} (hc : CoAt w' g base 69 fu vi' vt' (zrest s vf vs) c) (hk : CKp w w' g base) (hs : s.steps ≤ c.steps) : MRaw w' g base fu vi' vt' vf vs zs (s.withCo c) := by
  have h3 := own_offT h.st h.core.row (by decide)
  exact ⟨hc, hk.own h.st (by decide) (by rcases h3 with e | e <;> simp [e]), h.eq, h.asc, h.low, fun z hz => ⟨((h.maps z hz).1.keptC hk ((h.maps z hz).1.not_row h.core.row)).mono hs, ((h.maps z hz).2.keptC hk ((h.maps z hz).2.not_row h.core.row)).mono hs⟩⟩
/-- One step more. -/
theorem MRaw.more (h : MRaw w g base fu vi vt vf vs zs s) : MRaw (w.setCell ⟨g, 7, none⟩ (.int .i64 ((s.steps : Int) + 1))) g base fu vi vt vf vs zs { s with steps := s.steps + 1 } :=
  h.cored (c := { s.co with steps := s.steps + 1 }) (h.core.store 7 (.int .i64 ((s.steps : Int) + 1)) (c' := { s.co with steps := s.steps + 1 }) (fu' := fu) (vi' := vi) (rest' := zrest s vf vs) rfl h.core.inp rfl h.core.r8) (CKp.set w g base 7 _) (Nat.le_succ _)
/-- A store behind the core. -/
theorem MRaw.setRest (h : MRaw w g base fu vi vt vf vs zs s) (j : Nat) (u : Value) {s' : Mch} (hr : (zrest s vf vs).set j u = zrest s' vf vs) (hc : s'.co = s.co) (hs : s'.st = s.st) : MRaw (w.setCell ⟨g, 25 + j, none⟩ u) g base fu vi vt vf vs zs s' := by
  have hg := put_grown w g (25 + j) u
  have hcs := h.core.setRest j u
  rw [hr] at hcs
  have hst : s'.steps = s.steps := congrArg Co.steps hc
  refine ⟨by rw [hc]; exact hcs, by rw [hs]; exact h.st.kept hg (own_offT h.st h.core.row (by decide)), h.eq.trans hs.symm, h.asc, h.low, fun z hz => ?_⟩
  rw [hst]
  exact ⟨(h.maps z hz).1.setCell ⟨g, 25 + j, none⟩ ((h.maps z hz).1.not_row h.core.row) u, (h.maps z hz).2.setCell ⟨g, 25 + j, none⟩ ((h.maps z hz).2.not_row h.core.row) u⟩
/-- What a block of another type leaves. -/
theorem MRaw.off_grown {w7 : World} {row : Option Nat} {k : Nat} {t : TypeId} {cs : Array Value} {fr : Nat × Nat} (h : MRaw w g base fu vi vt vf vs zs s) (hk : row = some k) (hh : w.heap[k]? = some (.cells cs t fr)) (hg : w.grownBy w7 row) :
    (t ≠ 69 → Row w7 g 69 (ccells fu s.co vi vt ++ zrest s vf vs)) ∧ (t ≠ 33 → w7.ownsRow base 33 2 vt s.trace.length (vcells s.trace)) ∧ (t ≠ 88 → w7.ownsRow base 88 4 vs s.st.length (acells zs)) ∧ (∀ z ∈ zs, CellsAt w7 z.2.1 s.steps z.1.sl ∧ CellsAt w7 z.2.2 s.steps z.1.ar) := by
  subst hk
  refine ⟨fun ht => h.row.grown hg (fun e => ?_), fun ht => h.core.tr.kept hg (own_offT h.core.tr hh ht), fun ht => h.st.kept hg (own_offT h.st hh ht), fun z hz => ⟨(h.maps z hz).1.kept hg (fun e => ?_), (h.maps z hz).2.kept hg (fun e => ?_)⟩⟩
  · injection e with e
    have := h.row
    unfold Row at this
    rw [e, hh] at this
    injection this with this
    injection this with _ e3
    exact ht e3
  · injection e with e
    exact (h.maps z hz).1.not_row hh e
  · injection e with e
    exact (h.maps z hz).2.not_row hh e
theorem blocksZ_app (l m : List Zn) : blocksZ (l ++ m) = blocksZ l ++ blocksZ m := by simp [blocksZ]
theorem MRaw.block_lt (h : MRaw w g base fu vi vt vf vs zs s) : ∀ b ∈ blocksZ zs, b < w.heap.size := fun b hb => by
  unfold blocksZ at hb
  obtain ⟨z, hz, hb⟩ := List.mem_flatMap.1 hb
  simp only [List.mem_cons, List.not_mem_nil, or_false] at hb
  rcases hb with rfl | rfl
  · exact (h.maps z hz).1.lt
  · exact (h.maps z hz).2.lt
theorem MRaw.st_row {w7 : World} (h : MRaw w g base fu vi vt vf vs zs s) (hg : w.grownBy w7 vs.ownBlock) : Row w7 g 69 (ccells fu s.co vi vt ++ zrest s vf vs) ∧ w7.ownsRow base 33 2 vt s.trace.length (vcells s.trace) ∧ (∀ b K m, CellsAt w b K m → CellsAt w7 b K m) := by
  rcases h.st.2 with ⟨rfl, _⟩ | ⟨k, cap, cur, rfl, _, hh, _⟩
  · refine ⟨h.row.grown hg (fun e => by cases e), h.core.tr.kept hg ?_, fun b K m hc => hc.kept hg (fun e => by cases e)⟩
    cases hv : vt.ownBlock with
    | none => exact .inl rfl
    | some k => exact .inr (fun e => by cases e)
  · obtain ⟨a1, a2, _, _⟩ := h.off_grown (row := some k) rfl hh hg
    exact ⟨a1 (by decide), a2 (by decide), fun b K m hc => hc.kept hg (fun e => by injection e with e; exact hc.not_row hh e)⟩
/-- An activation more. -/
theorem MRaw.entered {w3 w7 : World} {v' : Value} {f M1 M2 : Nat} (h : MRaw w g base fu vi vt vf vs zs s) (hM1 : w.heap.size ≤ M1) (hM2 : M1 < M2) (h3 : MRaw w3 g base fu vi vt vf vs zs s) (c1 : CellsAt w3 M1 0 noC) (c2 : CellsAt w3 M2 0 noC) (hg : w3.grownBy w7 vs.ownBlock)
    (ho : w7.ownsRow base 88 4 v' (s.st.length + 1) (acells zs ++ acell (⟨f, 0, noC, noC⟩, M1, M2))) :
    MRaw (w7.setCell ⟨g, 26, none⟩ v') g base fu vi vt vf v' (zs ++ [(⟨f, 0, noC, noC⟩, M1, M2)]) { s with st := s.st ++ [⟨f, 0, noC, noC⟩] } ∧ Below base w3 (w7.setCell ⟨g, 26, none⟩ v') := by
  have hB : Below base w3 w7 := (Below.refl _ _).grown hg h3.bl (fun k hk => (h3.st.lt k hk).1)
  obtain ⟨r1, r2, r3⟩ := h3.st_row hg
  have hcore : CoAt w7 g base 69 fu vi vt (zrest s vf vs) s.co := ⟨r1, h.core.gb, h.core.nt, h.core.r8, h3.core.inp.below hB, r2⟩
  have hg2 : w7.grownBy (w7.setCell ⟨g, 26, none⟩ v') (some g) := put_grown w7 g 26 v'
  have hB2 : Below base w7 (w7.setCell ⟨g, 26, none⟩ v') := (Below.refl _ _).setCell h.gb _
  have far : ∀ b K m, CellsAt w3 b K m → CellsAt (w7.setCell ⟨g, 26, none⟩ v') b K m := fun b K m hc => (r3 b K m hc).setCell ⟨g, 26, none⟩ ((r3 b K m hc).not_row r1) _
  refine ⟨⟨hcore.setRest 1 v', ?_, ?_, ?_, ?_, fun z hz => ?_⟩, hB.trans hB2⟩
  · show World.ownsRow _ base _ 4 v' (s.st ++ [_]).length (acells (zs ++ [_]))
    rw [List.length_append, acells_app]
    exact ho.kept hg2 (own_offT ho r1 (by decide))
  · rw [List.map_append, h.eq]; rfl
  · rw [blocksZ_app, List.pairwise_append]
    refine ⟨h.asc, ?_, fun a ha b hb => ?_⟩
    · show [M1, M2].Pairwise (· < ·)
      simp [hM2]
    · have := h.block_lt a ha
      have hb : b = M1 ∨ b = M2 := by simpa [blocksZ] using hb
      rcases hb with rfl | rfl <;> omega
  · intro b hb
    rw [blocksZ_app, List.mem_append] at hb
    rcases hb with hb | hb
    · exact h.low b hb
    · have hb : b = M1 ∨ b = M2 := by simpa [blocksZ] using hb
      have := h.bl
      rcases hb with rfl | rfl <;> omega
  · rcases List.mem_append.1 hz with hz | hz
    · exact ⟨far _ _ _ (h3.maps z hz).1, far _ _ _ (h3.maps z hz).2⟩
    · obtain rfl : z = (⟨f, 0, noC, noC⟩, M1, M2) := by simpa using hz
      exact ⟨(far _ _ _ c1).mono (Nat.zero_le _), (far _ _ _ c2).mono (Nat.zero_le _)⟩
/-- The last activation is gone. -/
theorem MRaw.left_ {A : Option Addr} {k c : Nat} {ys : List Zn} {z : Zn} (h : MRaw w g base fu vi vt vf (.slice A (k + 1) c) (ys ++ [z]) s) (hk : ys.length = k) :
    MRaw (w.setCell ⟨g, 26, none⟩ (.slice A k c)) g base fu vi vt vf (.slice A k c) ys { s with st := s.st.dropLast } := by
  have hg : w.grownBy (w.setCell ⟨g, 26, none⟩ (.slice A k c)) (some g) := put_grown w g 26 _
  have hst : s.st = ys.map (·.1) ++ [z.1] := by rw [← h.eq, List.map_append]; rfl
  have hsl : s.st.length = k + 1 := by rw [hst, List.length_append, List.length_map, hk]; rfl
  have hdl : s.st.dropLast = ys.map (·.1) := by rw [hst, List.dropLast_concat]
  refine ⟨h.core.setRest 1 (.slice A k c), ?_, hdl.symm, ?_, fun b hb => h.low b (by rw [blocksZ_app]; exact List.mem_append_left _ hb), fun z' hz => ?_⟩
  · have ho := h.st
    rw [hsl] at ho
    have h2 := own_shrink ho
    rw [acells_app, List.take_append_of_le_length (by rw [acells_len, hk]; exact Nat.le_refl _), List.take_of_length_le (by rw [acells_len, hk]; exact Nat.le_refl _)] at h2
    show World.ownsRow _ base _ 4 _ s.st.dropLast.length _
    rw [show s.st.dropLast.length = k by rw [List.length_dropLast, hsl]; rfl]
    exact h2.kept hg (own_offT h2 h.core.row (by decide))
  · have := h.asc
    rw [blocksZ_app, List.pairwise_append] at this
    exact this.1
  · have hm := h.maps z' (List.mem_append_left _ hz)
    exact ⟨hm.1.setCell ⟨g, 26, none⟩ (hm.1.not_row h.core.row) _, hm.2.setCell ⟨g, 26, none⟩ (hm.2.not_row h.core.row) _⟩
end
section
variable {w w' : World} {g base fu : Nat} {vi vt vf vs : Value} {zs ys : List Zn} {z : Zn} {s : Mch} {G c k : Nat}
/-- The maps of all activations, of at most K entries. -/
def MapsK (w : World) (zs : List Zn) (K : Nat) : Prop := ∀ z ∈ zs, CellsAt w z.2.1 K z.1.sl ∧ CellsAt w z.2.2 K z.1.ar
theorem MapsK.call {K : Nat} (h : MapsK w zs K) (hb : Below w.heap.size w w') : MapsK w' zs K := fun z hz => ⟨(h z hz).1.below hb (h z hz).1.lt, (h z hz).2.below hb (h z hz).2.lt⟩
theorem MapsK.drewN {K : Nat} (h : MapsK w zs K) (n : Nat) : MapsK (w.drewN n) zs K := h
theorem MapsK.put {K t : Nat} {cs : Array Value} {fr : Nat × Nat} (h : MapsK w zs K) (hr : w.heap[g]? = some (.cells cs t fr)) (j : Nat) (u : Value) : MapsK (w.setCell ⟨g, j, none⟩ u) zs K := fun z hz =>
  ⟨(h z hz).1.setCell ⟨g, j, none⟩ ((h z hz).1.not_row hr) u, (h z hz).2.setCell ⟨g, j, none⟩ ((h z hz).2.not_row hr) u⟩
theorem st_top (h : (ys ++ [z]).map (·.1) = s.st) : s.top = z.1 ∧ s.st.dropLast = ys.map (·.1) := by
  have e : s.st = ys.map (·.1) ++ [z.1] := by rw [← h, List.map_append]; rfl
  refine ⟨?_, by rw [e, List.dropLast_concat]⟩
  unfold Mch.top
  rw [e, List.getLastD_concat]
theorem acells_set (ys : List Zn) (z z' : Zn) (j : Nat) (u : Value) (hj : j < 4) (hz : acell z' = (acell z).set j u) : (acells (ys ++ [z])).set (ys.length * 4 + j) u = acells (ys ++ [z']) := by
  have := flat_set acell_len (ys ++ [z]) ys.length z z' (by simp) j hj u hz
  unfold acells
  rw [this]
  congr 1
  rw [List.set_append_right _ _ (Nat.le_refl _), Nat.sub_self, List.set_cons_zero]
/-- The next instruction is stored. -/
theorem MRaw.pcSet (h : MRaw w g base fu vi vt vf (.slice (some ⟨G, 0, none⟩) (k + 1) c) (ys ++ [z]) s) (hk : ys.length = k) (n : Nat) :
    MRaw (w.setCell ⟨G, k * 4 + 1, none⟩ (.int .i64 (n : Int))) g base fu vi vt vf (.slice (some ⟨G, 0, none⟩) (k + 1) c) (ys ++ [({ z.1 with pc := n }, z.2)]) (s.jump n) ∧ w.grownBy (w.setCell ⟨G, k * 4 + 1, none⟩ (.int .i64 (n : Int))) (some G) ∧ base ≤ G ∧ (∃ cs, w.heap[G]? = some (.cells cs 88 (0, 0))) := by
  have hg := put_grown w G (k * 4 + 1) (.int .i64 (n : Int))
  obtain ⟨hb, cs, hh⟩ : base ≤ G ∧ ∃ cs, w.heap[G]? = some (.cells cs 88 (0, 0)) := by
    rcases h.st.2 with ⟨e1, _⟩ | ⟨G', cap, cur, hv, hb, hh, _⟩
    · cases e1
    · injection hv with hv
      injection hv with hv
      injection hv with hv
      subst hv
      exact ⟨hb, cur, hh⟩
  obtain ⟨ht, hd⟩ := st_top h.eq
  have hB : Below base w (w.setCell ⟨G, k * 4 + 1, none⟩ (.int .i64 (n : Int))) := (Below.refl _ _).setCell hb _
  obtain ⟨a1, a2, _, _⟩ := h.off_grown (row := some G) rfl hh hg
  have hst2 : (s.jump n).st = s.st.dropLast ++ [{ s.top with pc := n }] := rfl
  have hlen : (s.jump n).st.length = s.st.length := by
    have h1 := h.len
    rw [hst2, List.length_append, List.length_dropLast]
    rw [List.length_append] at h1
    simp only [List.length_cons, List.length_nil] at h1 ⊢
    omega
  refine ⟨⟨⟨a1 (by decide), h.core.gb, h.core.nt, h.core.r8, h.core.inp.below hB, a2 (by decide)⟩, ?_, ?_, ?_, ?_, ?_⟩, hg, hb, cs, hh⟩
  · have hsl : s.st.length = k + 1 := by
      have := h.len
      rw [List.length_append, hk] at this
      simp only [List.length_cons, List.length_nil] at this
      omega
    have ho := h.st
    rw [hsl] at ho
    rw [hlen, hsl, ← acells_set ys z ({ z.1 with pc := n }, z.2) 1 (.int .i64 (n : Int)) (by omega) rfl, hk]
    exact (ho.stored (k * 4 + 1) (.int .i64 (n : Int))).1
  · rw [hst2, ht, hd, List.map_append]
    rfl
  · have := h.asc
    rw [blocksZ_app] at this ⊢
    exact this
  · intro b hb
    refine h.low b ?_
    rw [blocksZ_app] at hb ⊢
    exact hb
  · intro z' hz
    rcases List.mem_append.1 hz with hz | hz
    · have hm := h.maps z' (List.mem_append_left _ hz)
      exact ⟨hm.1.setCell ⟨G, k * 4 + 1, none⟩ (hm.1.not_row hh) _, hm.2.setCell ⟨G, k * 4 + 1, none⟩ (hm.2.not_row hh) _⟩
    · obtain rfl : z' = ({ z.1 with pc := n }, z.2) := by simpa using hz
      have hm := h.maps z (by simp)
      exact ⟨hm.1.setCell ⟨G, k * 4 + 1, none⟩ (hm.1.not_row hh) _, hm.2.setCell ⟨G, k * 4 + 1, none⟩ (hm.2.not_row hh) _⟩
/-- A map of the activation that runs has changed. -/
theorem MRaw.mapSet {b : Nat} (z' : Zn) (h : MRaw w g base fu vi vt vf vs (ys ++ [z]) s) (hb : b = z.2.1 ∨ b = z.2.2) (hz : z'.2 = z.2) (hf : z'.1.f = z.1.f) (hp : z'.1.pc = z.1.pc) (hg : w.grownBy w' (some b)) (h1 : CellsAt w' z.2.1 s.steps z'.1.sl) (h2 : CellsAt w' z.2.2 s.steps z'.1.ar) :
    MRaw w' g base fu vi vt vf vs (ys ++ [z']) (s.setTop z'.1) ∧ Below base w w' := by
  have hbb : b ∈ blocksZ (ys ++ [z]) := by
    rw [blocksZ_app]
    refine List.mem_append_right _ ?_
    show b ∈ [z.2.1, z.2.2]
    rcases hb with rfl | rfl <;> simp
  have hlow := h.low b hbb
  have hB : Below base w w' := (Below.refl _ _).grown hg h.bl (fun j hj => by injection hj with hj; omega)
  have hmap : ∃ K m, CellsAt w b K m := by
    rcases hb with rfl | rfl
    · exact ⟨_, _, (h.maps z (by simp)).1⟩
    · exact ⟨_, _, (h.maps z (by simp)).2⟩
  obtain ⟨K, m, hm⟩ := hmap
  have own : ∀ {e size n : Nat} {v : Value} {xs : List Value}, w.ownsRow base e size v n xs → v.ownBlock = none ∨ v.ownBlock ≠ some b := fun {e size n v xs} ho => by
    rcases ho.2 with ⟨rfl, _⟩ | ⟨j, cap, cur, rfl, _, hh, _⟩
    · exact .inl rfl
    · exact .inr (fun e => by injection e with e; exact hm.not_row hh e.symm)
  obtain ⟨ht, hd⟩ := st_top h.eq
  have hst2 : (s.setTop z'.1).st = s.st.dropLast ++ [z'.1] := rfl
  have hlen : (s.setTop z'.1).st.length = s.st.length := by
    have h1 := h.len
    rw [hst2, List.length_append, List.length_dropLast]
    rw [List.length_append] at h1
    simp only [List.length_cons, List.length_nil] at h1 ⊢
    omega
  have hbz : blocksZ (ys ++ [z']) = blocksZ (ys ++ [z]) := by
    rw [blocksZ_app, blocksZ_app]
    show _ ++ [z'.2.1, z'.2.2] = _ ++ [z.2.1, z.2.2]
    rw [hz]
  have hac : acells (ys ++ [z']) = acells (ys ++ [z]) := by
    rw [acells_app, acells_app]
    show _ ++ acell z' = _ ++ acell z
    unfold acell
    rw [hz, hf, hp]
  refine ⟨⟨⟨h.row.grown hg (fun e => by injection e with e; exact hm.not_row h.row e.symm), h.core.gb, h.core.nt, h.core.r8, h.core.inp.below hB, h.core.tr.kept hg (own h.core.tr)⟩, ?_, ?_, ?_, ?_, ?_⟩, hB⟩
  · rw [hlen, hac]; exact h.st.kept hg (own h.st)
  · rw [hst2, hd, List.map_append]; rfl
  · rw [hbz]; exact h.asc
  · rw [hbz]; exact h.low
  · intro z2 hz2
    rcases List.mem_append.1 hz2 with hz2 | hz2
    · have hm2 := h.maps z2 (List.mem_append_left _ hz2)
      have hasc := h.asc
      rw [blocksZ_app, List.pairwise_append] at hasc
      have lt1 : ∀ a, (a = z2.2.1 ∨ a = z2.2.2) → a ≠ b := fun a ha => by
        have h1 : a ∈ blocksZ ys := by
          unfold blocksZ
          exact List.mem_flatMap.2 ⟨z2, hz2, by rcases ha with rfl | rfl <;> simp⟩
        have h2 : b ∈ blocksZ [z] := by
          show b ∈ [z.2.1, z.2.2]
          rcases hb with rfl | rfl <;> simp
        have := hasc.2.2 a h1 b h2
        omega
      exact ⟨hm2.1.kept hg (fun e => by injection e with e; exact lt1 _ (.inl rfl) e), hm2.2.kept hg (fun e => by injection e with e; exact lt1 _ (.inr rfl) e)⟩
    · obtain rfl : z2 = z' := by simpa using hz2
      rw [hz]
      exact ⟨h1, h2⟩
theorem MRaw.two (h : MRaw w g base fu vi vt vf vs (ys ++ [z]) s) : z.2.1 ≠ z.2.2 := by
  have := h.asc
  rw [blocksZ_app, List.pairwise_append] at this
  have h2 : [z.2.1, z.2.2].Pairwise (· < ·) := this.2.1
  simp at h2
  omega
end
end Go.Proofs.YtipjeihfhnilcaaDoor
end
