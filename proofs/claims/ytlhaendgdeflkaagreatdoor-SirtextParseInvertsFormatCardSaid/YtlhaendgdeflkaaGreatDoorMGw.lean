import Derived.Test.YtlhaendgdeflkaaGreatDoorMTinstr
import Derived.Shelf.Strings.BuilderK
import Derived.Shelf.Strings.BuilderF
set_option linter.unusedVariables false
set_option linter.unusedSimpArgs false
section
/-
  The contracts of both Instr at any instruction. Conditions: those of Tinstr.
-/
namespace Go.Proofs.YtlhaendgdeflkaaGreatDoor
open Go.RowKit

theorem insT_out {x : Ins} (h : ¬ withB x.op 25 = true) : insT x = [63] := by unfold insT; rw [if_neg h]

set_option maxHeartbeats 4000000 in
set_option maxRecDepth 100000 in
theorem rinstr_out (x : Ins) (w : World) (ho : ¬ withB x.op 25 = true) :
    Calls Tryz.prog 18 #[iv x.op x.a x.b x.c x.imm] w fun e w' => e = .returned (.string ⟨(insT x).toArray⟩) ∧ Below w.heap.size w w' := by
  obtain ⟨W0, hW0, hb0, hB0, hsz⟩ : ∃ W, w.alloc (.cells (icell x).toArray 44) = W ∧ Below w.heap.size w W ∧ Row W w.heap.size 44 (icell x) ∧ w.heap.size + 1 = W.heap.size := ⟨_, rfl, (Below.refl _ _).alloc (Nat.le_refl _) _, Row.new _ _ _, by simp⟩
  rw [insT_out ho]
  have hna := rname_any x.op
  simp only [ho] at hna
  have HNA := hide hna
  have c0 := hB0.cell (k := 0) rfl
  have HW := hide hW0; have HB0 := hide hb0
  clear hna ho hW0 hb0 hB0
  obtain ⟨zo, za, zb, zc, zm⟩ := x
  dsimp only at *
  go_enter Tryz.func18, Tryz.ntmps18
  go_upto_region 1 with (fail)
  rw [show w.alloc (.cells #[.int .i64 zo, .int .i64 za, .int .i64 zb, .int .i64 zc, .int .u64 zm] 44) = W0 from HW.out]
  go_wp2_with fail
  refine (HNA.out _).mono ?_
  rintro e w1 ⟨rfl, hb1⟩
  go_wp2
  go_ret
  exact ⟨rfl, below_step HB0.out hb1⟩

theorem rinstr_any (x : Ins) (hx : InsB x) (w : World) :
    Calls Tryz.prog 18 #[iv x.op x.a x.b x.c x.imm] w fun e w' => e = .returned (.string ⟨(insT x).toArray⟩) ∧ Below w.heap.size w w' := by
  by_cases ho : withB x.op 25 = true
  · have h := withB_true.1 ho
    rcases shapes_of h.1 h.2 with a | a | a | a | a | a
    · exact rinstr_abc x hx w ho a
    · exact rinstr_ab x hx w ho a
    · exact rinstr_a x hx w ho a
    · exact rinstr_ai x hx w ho a
    · exact rinstr_i x hx w ho a
    · exact rinstr_none x hx w ho a
  · exact rinstr_out x w ho

set_option maxHeartbeats 4000000 in
set_option maxRecDepth 100000 in
theorem dinstr_out (x : Ins) (w : World) (ho : ¬ withB x.op 25 = true) :
    Calls Tryz.prog 15 #[iv x.op x.a x.b x.c x.imm] w fun e w' => e = .returned (.string ⟨(insT x).toArray⟩) ∧ Below w.heap.size w w' := by
  rw [insT_out ho]
  by_cases h0 : x.op < 0
  · clear ho
    obtain ⟨zo, za, zb, zc, zm⟩ := x
    dsimp only at *
    go_enter Tryz.func15, Tryz.ntmps15
    go_wp2
    go_ret
    exact ⟨rfl, (Below.refl _ _).alloc (Nat.le_refl _) _⟩
  · have h1 : 25 ≤ x.op := by
      have := withB_false.1 (by simpa using ho); omega
    clear ho
    obtain ⟨zo, za, zb, zc, zm⟩ := x
    dsimp only at *
    go_enter Tryz.func15, Tryz.ntmps15
    go_wp2
    go_ret
    exact ⟨rfl, (Below.refl _ _).alloc (Nat.le_refl _) _⟩

theorem dinstr_any (x : Ins) (hx : InsB x) (w : World) (hP : Lib.TabIs Tryz.prog w "internal/strconv.uint64pow10" .u64 Lib.pow10Tab) (hS : Hid (Synt w)) :
    Calls Tryz.prog 15 #[iv x.op x.a x.b x.c x.imm] w fun e w' => e = .returned (.string ⟨(insT x).toArray⟩) ∧ Below w.heap.size w w' := by
  by_cases ho : withB x.op 25 = true
  · have h := withB_true.1 ho
    exact dinstr_in x hx w hP hS x.op.toNat (by omega) (by omega)
  · exact dinstr_out x w ho

set_option maxRecDepth 100000 in
theorem awake_any (w : World) (hP : Lib.TabIs Tryz.prog w "internal/strconv.uint64pow10" .u64 Lib.pow10Tab) (hS : Hid (Synt w)) :
    Calls Tryz.prog 5 #[] w fun e w' => e = .returned (.bool true) ∧ Below w.heap.size w w' := by
  have hi : insT ⟨0, 1, 0, 0, 7⟩ = [99, 111, 110, 115, 116, 32, 114, 49, 32, 55] := by
    rw [insT_tail rfl, tail_app, tail_app, tail_app, tail_opd, tail_opd, tail_opd, tail_imm]
    have e1 : Lib.itoa 1 = [49] := by unfold Lib.itoa; rw [if_neg (by decide)]; exact Lib.decDigits_one (by decide)
    have e7 : Lib.decDigits (7 : Int).toNat = [55] := Lib.decDigits_one (by decide)
    rw [e1, e7]
    rfl
  have hd := dinstr_any ⟨0, 1, 0, 0, 7⟩ ⟨by decide, by decide, by decide, by decide, by decide, by decide, by decide, by decide, by decide, by decide⟩ w hP hS
  rw [hi] at hd
  have HD := hide hd
  clear hd hi hP
  go_enter Tryz.func5, Tryz.ntmps5
  go_wp2_with fail
  refine HD.out.mono ?_
  rintro e w1 ⟨rfl, hb1⟩
  go_wp2
  go_ret
  exact ⟨rfl, hb1⟩
end Go.Proofs.YtlhaendgdeflkaaGreatDoor
end

section
/-
  The mathematics of the text of a program: its lines, its length, its error. Nothing here names the program.
-/
namespace Go.Proofs.YtlhaendgdeflkaaGreatDoor
open Go.RowKit

def headT (P : Int) : List UInt8 := [102, 117, 110, 99, 32] ++ Lib.itoa P ++ [10]
def slotT (s : Int × Int) : List UInt8 := [115, 108, 111, 116, 32] ++ Lib.itoa s.1 ++ [32] ++ Lib.itoa s.2 ++ [10]
def codeT (x : Ins) : List UInt8 := insT x ++ [10]
def fnT (f : Fn) : List UInt8 := headT f.params ++ f.slots.flatMap slotT ++ f.code.flatMap codeT
def pgT (F : Pg) : List UInt8 := F.flatMap fnT
/-- The error of Format, and its text. -/
def fmtE (F : Pg) : Int := if pgE F ≠ 0 then pgE F else if 65536 < (pgT F).length then 3 else 0
def fmtT (F : Pg) : List UInt8 := if fmtE F = 0 then pgT F else []
theorem fmtT_len (F : Pg) : (fmtT F).length ≤ 65536 := by
  unfold fmtT
  by_cases h : fmtE F = 0
  · rw [if_pos h]
    unfold fmtE at h
    by_cases h1 : pgE F ≠ 0
    · rw [if_pos h1] at h; exact absurd h h1
    · rw [if_neg h1] at h
      by_cases h2 : 65536 < (pgT F).length
      · rw [if_pos h2] at h; cases h
      · omega
  · rw [if_neg h]; simp

theorem flat_bound {α : Type} (g : α → List UInt8) (c : Nat) (l : List α) (h : ∀ a ∈ l, (g a).length ≤ c) : (l.flatMap g).length ≤ l.length * c := by
  induction l with
  | nil => simp
  | cons a r ih =>
    have h1 := h a (List.mem_cons_self ..)
    have h2 := ih fun b hb => h b (List.mem_cons_of_mem _ hb)
    rw [List.flatMap_cons, List.length_append, List.length_cons, Nat.add_mul]
    omega
theorem flat_take_succ {α β : Type} (g : α → List β) (l : List α) (k : Nat) (a : α) (h : l[k]? = some a) : (l.take (k + 1)).flatMap g = (l.take k).flatMap g ++ g a := by
  rw [List.take_add_one, h]
  simp
theorem flat_take_all {α β : Type} (g : α → List β) (l : List α) : (l.take l.length).flatMap g = l.flatMap g := by rw [List.take_length]
theorem flat_take_le {α : Type} (g : α → List UInt8) (l : List α) (k : Nat) : ((l.take k).flatMap g).length ≤ (l.flatMap g).length := by
  conv => rhs; rw [← List.take_append_drop k l, List.flatMap_append, List.length_append]
  omega

/-- A function whose numbers are of the types. -/
structure FnB (f : Fn) : Prop where
  p0 : -9223372036854775808 ≤ f.params
  p1 : f.params ≤ 9223372036854775807
  s : ∀ u ∈ f.slots, (-9223372036854775808 ≤ u.1 ∧ u.1 ≤ 9223372036854775807) ∧ (-9223372036854775808 ≤ u.2 ∧ u.2 ≤ 9223372036854775807)
  c : ∀ x ∈ f.code, InsB x
  ns : f.slots.length ≤ 512
  nc : f.code.length ≤ 1024
theorem headT_len {P : Int} (h0 : -9223372036854775808 ≤ P) (h1 : P ≤ 9223372036854775807) : (headT P).length ≤ 27 := by
  have := Lib.itoa_length_le P h0 h1
  unfold headT
  simp only [List.length_append, List.length_cons, List.length_nil]
  omega
theorem slotT_len {u : Int × Int} (h0 : -9223372036854775808 ≤ u.1 ∧ u.1 ≤ 9223372036854775807) (h1 : -9223372036854775808 ≤ u.2 ∧ u.2 ≤ 9223372036854775807) : (slotT u).length ≤ 49 := by
  have := Lib.itoa_length_le u.1 h0.1 h0.2
  have := Lib.itoa_length_le u.2 h1.1 h1.2
  unfold slotT
  simp only [List.length_append, List.length_cons, List.length_nil]
  omega
theorem insT_short {x : Ins} (hx : InsB x) : (insT x).length ≤ 100 := by
  by_cases h : withB x.op 25 = true
  · rw [insT_tail h, tail_app, tail_app, tail_app]
    have h1 := name_len x.op
    have h2 := opd_len (shpOf x.op).1 x.a hx.a0 hx.a1
    have h3 := opd_len (shpOf x.op).2.1 x.b hx.b0 hx.b1
    have h4 := opd_len (shpOf x.op).2.2.1 x.c hx.c0 hx.c1
    have h5 : (Lib.joinTail [32] (immT (shpOf x.op).2.2.2 x.imm)).length ≤ 21 := by
      rw [tail_imm]
      split
      · have := Lib.nDigits_le20 x.imm.toNat (by have := hx.m1; omega)
        rw [List.length_cons, Lib.decDigits_length]; omega
      · simp
    simp only [List.length_append]
    omega
  · rw [insT_out h]; simp
theorem codeT_len {x : Ins} (hx : InsB x) : (codeT x).length ≤ 101 := by
  have := insT_short hx
  unfold codeT
  simp only [List.length_append, List.length_cons, List.length_nil]
  omega
theorem fnT_len {f : Fn} (h : FnB f) : (fnT f).length ≤ 200000 := by
  have h1 := headT_len h.p0 h.p1
  have h2 := flat_bound slotT 49 f.slots fun u hu => slotT_len (h.s u hu).1 (h.s u hu).2
  have h3 := flat_bound codeT 101 f.code fun x hx => codeT_len (h.c x hx)
  have := h.ns
  have := h.nc
  unfold fnT
  simp only [List.length_append]
  omega
theorem pgT_len {F : Pg} (h : ∀ f ∈ F, FnB f) (hn : F.length ≤ 80) : (pgT F).length ≤ 16000000 := by
  have := flat_bound fnT 200000 F fun f hf => fnT_len (h f hf)
  unfold pgT
  omega
/-- A program without an error has numbers of the types. -/
theorem opnd_small {N : Nat} {f : Fn} {k n : Int} (h : opndE N f k n = 0) (hc : cntV N f k ≤ 1024) : 0 ≤ n ∧ n ≤ 1024 := by
  have := withB_true.1 (opndE_zero.1 h)
  omega
theorem insB_of {N : Nat} {f : Fn} {x : Ins} (h : insE N f x = 0) (hN : N ≤ 80) (hs : f.slots.length ≤ 512) (hp : f.params ≤ 8) (hc : f.code.length ≤ 1024) (hi : 0 ≤ x.imm ∧ x.imm ≤ 18446744073709551615) : InsB x := by
  obtain ⟨ho, e1, e2, e3, _, _⟩ := insE_zero.1 h
  have b1 := opnd_small e1 (cntV_le hN hs hp hc)
  have b2 := opnd_small e2 (cntV_le hN hs hp hc)
  have b3 := opnd_small e3 (cntV_le hN hs hp hc)
  exact ⟨by omega, by omega, by omega, by omega, by omega, by omega, by omega, by omega, hi.1, hi.2⟩
theorem slB_of {s : Int × Int} (h : slotB s.1 s.2 = true) : (-9223372036854775808 ≤ s.1 ∧ s.1 ≤ 9223372036854775807) ∧ (-9223372036854775808 ≤ s.2 ∧ s.2 ≤ 9223372036854775807) := by
  unfold slotB szB at h
  rw [Bool.and_eq_true] at h
  have h1 := of_decide_eq_true h.1
  obtain ⟨k, hk, e⟩ := powB_iff.1 h.2
  have h2 := Nat.pow_le_pow_right (n := 2) (by decide) hk
  have h3 : ((2 ^ k : Nat) : Int) = (2 : Int) ^ k := by simp
  have h4 : (2 : Nat) ^ 24 = 16777216 := by decide
  rw [← h3] at e
  obtain ⟨q, hq⟩ : ∃ q : Nat, q = 2 ^ k := ⟨_, rfl⟩
  rw [← hq] at e h2
  rw [h4] at h2
  clear h3 hq
  exact ⟨⟨by omega, by omega⟩, by omega, by omega⟩
theorem fnB_of {N : Nat} {f : Fn} (h : fnE N f = 0) (hN : N ≤ 80) (hi : ∀ x ∈ f.code, 0 ≤ x.imm ∧ x.imm ≤ 18446744073709551615) : FnB f := by
  obtain ⟨hc, hs, hp, hx, _⟩ := fnE_zero.1 h
  have hl : f.slots.length ≤ 512 := by
    rcases Nat.lt_or_ge 512 f.slots.length with h1 | h1
    · rw [slotsE_many h1] at hs; cases hs
    · exact h1
  refine ⟨by omega, by omega, fun s hm => ?_, fun x hm => insB_of (hx x hm) hN hl hp.2 hc (hi x hm), hl, hc⟩
  rw [slotsE_few hl] at hs
  split at hs
  · cases hs
  · rename_i ha
    simp only [List.any_eq_true, not_exists, not_and, Bool.not_eq_true, Bool.not_eq_false'] at ha
    exact slB_of (by have := ha s hm; simpa using this)
theorem pgB_of {F : Pg} (h : pgE F = 0) (hi : ∀ f ∈ F, ∀ x ∈ f.code, 0 ≤ x.imm ∧ x.imm ≤ 18446744073709551615) : F.length ≤ 80 ∧ ∀ f ∈ F, FnB f := by
  obtain ⟨hl, _, hf⟩ := pgE_zero.1 h
  exact ⟨hl, fun f hm => fnB_of (hf f hm) hl (hi f hm)⟩
end Go.Proofs.YtlhaendgdeflkaaGreatDoor
end

section
/-
  A builder of strings: the contracts of its methods at this program, and of writeLine. No condition but the lengths.
-/
namespace Go.Proofs
open Go.Shelf
/-- The numbers of the library's functions at this program, WriteByte among them. -/
def Tryz.bren : Go.Shelf.Ren := ⟨fun n => if n = 167 then 74 else Tryz.lays156_ren.f n, Tryz.lays156_ren.t, Tryz.lays156_ren.g⟩
theorem Tryz.blays : Go.Proofs.Lays.n167 Tryz.prog Tryz.bren := {
  mixed := Tryz.lays156.mixed
  f167 := Tryz.func74.trans (congrArg some (by kernel_rfl))
  f240 := Tryz.func80.trans (congrArg some (by kernel_rfl))
  f276 := Tryz.func101.trans (congrArg some (by kernel_rfl))
  t0 := Tryz.lays156.t0
  a0 := Tryz.lays156.a0
  z0 := Tryz.lays156.z0
  v0 := Tryz.lays156.v0
  t4 := Tryz.lays156.t4
  a4 := Tryz.lays156.a4
  z4 := Tryz.lays156.z4
  v4 := Tryz.lays156.v4
  t5 := Tryz.Builder_Extra_156.t5
  a5 := Tryz.Builder_Extra_156.a5
  z5 := Tryz.Builder_Extra_156.z5
  v5 := Tryz.Builder_Extra_156.v5
  t9 := Tryz.lays156.t9
  a9 := Tryz.lays156.a9
  z9 := Tryz.lays156.z9
  v9 := Tryz.lays156.v9
  t20 := Tryz.lays156.t20
  a20 := Tryz.lays156.a20
  z20 := Tryz.lays156.z20
  v20 := Tryz.lays156.v20
  t37 := Tryz.lays156.t37
  a37 := Tryz.lays156.a37
  z37 := Tryz.lays156.z37
  v37 := Tryz.lays156.v37
  t70 := Tryz.lays156.t70
  a70 := Tryz.lays156.a70
  z70 := Tryz.lays156.z70
  v70 := Tryz.lays156.v70
  t72 := Tryz.lays156.t72
  a72 := Tryz.lays156.a72
  z72 := Tryz.lays156.z72
  v72 := Tryz.lays156.v72
  t75 := Tryz.lays156.t75
  a75 := Tryz.lays156.a75
  z75 := Tryz.lays156.z75
  v75 := Tryz.lays156.v75
  t164 := Tryz.lays156.t164
  a164 := Tryz.lays156.a164
  z164 := Tryz.lays156.z164
  v164 := Tryz.lays156.v164 }
theorem Tryz.bextra : Builder.Extra Tryz.prog Tryz.bren := {
  sizeBuilder := by kernel_rfl
  liesBuilder := by kernel_rfl
  t5 := Tryz.Builder_Extra_156.t5
  a5 := Tryz.Builder_Extra_156.a5
  z5 := Tryz.Builder_Extra_156.z5
  v5 := Tryz.Builder_Extra_156.v5
  infoByte := by kernel_rfl
  cellsByte := by kernel_rfl
  sizeByte := by kernel_rfl
  neB5 := by decide }
end Go.Proofs
namespace Go.Proofs.YtlhaendgdeflkaaGreatDoor
open Go.RowKit

/-- A builder in block b of the call's own (from B on), holding these bytes. -/
abbrev IsB (B b : Nat) (l : List UInt8) (w : World) : Prop := Lib.IsBuilderF 70 5 B b (Lib.byteCells l) w
abbrev Kept (b : Nat) (w w' : World) : Prop := Lib.OthersKept 5 (some b) w w'

theorem heap_lt {w : World} {k : Nat} {o : Obj} (h : w.heap[k]? = some o) : k < w.heap.size := by
  rcases Nat.lt_or_ge k w.heap.size with h1 | h1
  · exact h1
  · rw [Array.getElem?_eq_none h1] at h; cases h
theorem kept_below {b : Nat} {w w' : World} (h : Below w.heap.size w w') : Kept b w w' := fun k o hk _ _ => (h.block k (heap_lt hk)).trans hk
theorem Row.kept {b : Nat} {w w' : World} {g t : Nat} {cs : List Value} (h : Row w g t cs) (hk : Kept b w w') (hb : g ≠ b) (ht : t ≠ 5) : Row w' g t cs :=
  hk g _ h (fun e => hb (by injection e)) fun c fz e => by
    injection e with _ e2 _
    exact ht e2
theorem isB_atF {p : Value} {B b : Nat} {bs : List Value} {w w' : World} (h : Lib.BuilderAtF 70 5 B b p bs w) (hb : Below w.heap.size w w') : Lib.BuilderAtF 70 5 B b p bs w' := by
  obtain ⟨hB, v, hbk, hown, hne⟩ := h
  refine ⟨hB, v, (hb.block b (heap_lt hbk)).trans hbk, ⟨hown.1, ?_⟩, hne⟩
  rcases hown.2 with hn | ⟨g, cap, cur, fz, hv, hbg, hg, rest⟩
  · exact .inl hn
  · exact .inr ⟨g, cap, cur, fz, hv, hbg, (hb.block g (heap_lt hg)).trans hg, rest⟩
theorem isB_old {B b : Nat} {l : List UInt8} {w w' : World} (h : IsB B b l w) (hb : Below w.heap.size w w') : IsB B b l w' := h.elim (fun x => .inl (isB_atF x hb)) (fun x => .inr (isB_atF x hb))

theorem wstr_any (B b : Nat) (l s : List UInt8) (w : World) (h : IsB B b l w) (hlen : l.length + s.length ≤ 140737488355328) (hBw : B ≤ w.heap.size) :
    Calls Tryz.prog 57 #[.pointer (some ⟨b, 0, none⟩), .string ⟨s.toArray⟩] w fun e w' => ∃ v, e = .returned v ∧ IsB B b (l ++ s) w' ∧ Below B w w' ∧ Kept b w w' := by
  have := Any.Builder_WriteString_k { Tryz.lays156 with } Tryz.Builder_Extra_156 B b (Lib.byteCells l) ⟨s.toArray⟩ w h (by rw [Lib.byteCells_length]; simpa [ByteArray.size] using hlen) hBw
  refine Calls.mono this ?_
  rintro e w' ⟨rfl, h1, h2, h3⟩
  refine ⟨_, rfl, ?_, h2, h3⟩
  rw [Lib.strCells_toArray, ← Lib.byteCells_append] at h1
  exact Or.inr h1
theorem wbyte_any (B b : Nat) (l : List UInt8) (w : World) (h : IsB B b l w) (hlen : l.length + 1 ≤ 140737488355328) (hBw : B ≤ w.heap.size) :
    Calls Tryz.prog 74 #[.pointer (some ⟨b, 0, none⟩), .int .u8 10] w fun e w' => ∃ v, e = .returned v ∧ IsB B b (l ++ [10]) w' ∧ Below B w w' ∧ Kept b w w' := by
  have := Any.Builder_WriteByte_k Tryz.blays Tryz.bextra B b (Lib.byteCells l) 10 w h (by rw [Lib.byteCells_length]; exact hlen) hBw
  refine Calls.mono this ?_
  rintro e w' ⟨rfl, h1, h2, h3⟩
  refine ⟨_, rfl, ?_, h2, h3⟩
  show Lib.IsBuilderF _ _ _ _ (Lib.byteCells (l ++ [10])) w'
  rw [Lib.byteCells_append]
  exact Or.inr h1
theorem blen_any (B b : Nat) (l : List UInt8) (w : World) (h : IsB B b l w) :
    Calls Tryz.prog 29 #[.pointer (some ⟨b, 0, none⟩)] w fun e w' => e = .returned (.int .i64 (l.length : Int)) ∧ w' = w := by
  have := Tryz.Builder_Len_f B b (Lib.byteCells l) w h
  rw [Lib.byteCells_length] at this
  exact this
theorem bstr_any (B b : Nat) (l : List UInt8) (w : World) (h : IsB B b l w) (hBw : B ≤ w.heap.size) :
    Calls Tryz.prog 30 #[.pointer (some ⟨b, 0, none⟩)] w fun e w' => e = .returned (.string ⟨l.toArray⟩) ∧ Below B w w' :=
  (Tryz.Builder_String_any_k B b l w h hBw).mono fun e w' h => ⟨h.1, h.2.2.1⟩

set_option maxHeartbeats 4000000 in
set_option maxRecDepth 100000 in
theorem wline_any (B b : Nat) (l : List UInt8) (ws : List (List UInt8)) (v : Value) (Bv : Nat) (w : World) (h : IsB B b l w) (hv : w.ownsRow Bv 9 1 v ws.length (wcells ws)) (h1 : 0 < ws.length) (h2 : ws.length ≤ 1000)
    (hl : l.length ≤ 100000000) (hj : (Lib.join ws [32]).length ≤ 100000000) (hBw : B ≤ w.heap.size) :
    Calls Tryz.prog 53 #[.pointer (some ⟨b, 0, none⟩), v] w fun e w' => e = .returned (.tuple #[]) ∧ IsB B b (l ++ Lib.join ws [32] ++ [10]) w' ∧ Below B w w' ∧ Kept b w w' := by
  have hjo := join_own ws [32] v Bv w hv h1 (by omega) (by omega)
  obtain ⟨t, et⟩ : ∃ t, t = Lib.join ws [32] := ⟨_, rfl⟩
  rw [← et] at hjo hj ⊢
  have H := hide h; have HV := hide hv; have ET := hide et; have HL := hide hl; have HJ := hide hj
  clear h hv h1 h2 et hl hj
  go_enter Tryz.func53, Tryz.ntmps53
  go_wp2_with fail
  refine hjo.mono ?_
  rintro e w1 ⟨rfl, hb1⟩
  have I1 := isB_old H.out hb1
  have hs1 := hb1.size
  go_wp2_with fail
  refine (wstr_any B b l t w1 I1 (by have := HL.out; have := HJ.out; omega) (by omega)).mono ?_
  rintro e w2 ⟨r2, rfl, I2, hb2, k2⟩
  have hs2 := hb2.size
  go_wp2_with fail
  refine (wbyte_any B b (l ++ t) w2 I2 (by have := HL.out; have := HJ.out; rw [List.length_append]; omega) (by omega)).mono ?_
  rintro e w3 ⟨r3, rfl, I3, hb3, k3⟩
  go_wp2_with fail
  go_end0
  exact ⟨rfl, I3, ((hb1.mono hBw).trans hb2).trans hb3, ((kept_below hb1).trans k2).trans k3⟩
end Go.Proofs.YtlhaendgdeflkaaGreatDoor
end
